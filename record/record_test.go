package record

import (
	"math"
	"math/rand"
	"slices"
	"strings"
	"testing"

	"watchman/api"
	"watchman/file"
	"watchman/frame"
)

const last = 1000000000

func long(n int) string { return strings.Repeat("x", n) }

// recorded are numbers, texts and their records, worked out by another program.
var recorded = []struct {
	n    int
	text string
	s    string
}{
	{5, "ab", "\x01\xff\x04\xff\x05\xffab\x8d\x8b\xff"},
	{6, "", "\x01\xff\x02\xff\x06\xff~\x8a\xff"},
	{0, "", "\x01\xff\x01\xff\xff\x01\xe0\xff"},
	{0, "\xff", "\x01\xff\x02\xff\xff\xff5/\xff"},
	{7, "\x07\xff", "\x01\xff\x04\xff\x07\xff\x07\xffW\x9a\xff"},
	{3, "\x01\xff", "\x01\xff\x04\xff\x03\xff\x01\xff\xd4\x02\x01\xff"},
	{250, "12/3 raised 1 5 15", "\x01\xff\x15\xff\x00\x01\xff12/3 raised 1 5 15\x9e(\xff"},
	{62499, strings.Repeat("y", 247), "\x01\xff\x00\x01\xff\xf9\xf9\xff" + strings.Repeat("y", 247) + "6Q\xff"},
	{last - 1, "\xfe\xff\x00", "\x01\xff\x08\xff\xf9\xf9\xf9?\xff\xfe\xff\x00\xf5\xed\xff"},
	{last, "z", "\x01\xff\x06\xff\x00\x00\x00@\xffz\xf6\xeb\xff"},
	{last, long(1000), "\x01\xff\x05\x04\xff\x00\x00\x00@\xff" + long(1000) + "\xe4\xe3\xff"},
	{0, strings.Repeat("\xff", 1000), "\x01\xff\x01\x04\xff\xff" + strings.Repeat("\xff", 1000) + "kt\xff"},
}

// noNumbers are numbers that no record has: some would be one, were they cut to fewer bits.
var noNumbers = []int{-1, -2, -5, -last, last + 1, last + 2, math.MaxInt32, 1 << 31, 1 << 32, 1<<32 + 5, -1<<32 + 5, 1<<62 + 5, math.MaxInt, math.MaxInt - 1, math.MinInt, math.MinInt + 1}

// put is a record, of what has one.
func put(t *testing.T, n int, s string) string {
	t.Helper()
	r, e := Put(n, s)
	if e != api.OK {
		t.Fatalf("P13.1: Put(%d, %.20q): %d", n, s, e)
	}
	return r
}

// row are the records of l, of the numbers n, the one behind it, and so on.
func row(t *testing.T, n int, l ...string) string {
	t.Helper()
	all := ""
	for i, s := range l {
		all += put(t, n+i, s)
	}
	return all
}

// forge is a frame of any kind and text.
func forge(t *testing.T, kind int, text string) string {
	t.Helper()
	s, e := frame.Put(kind, text)
	if e != api.OK {
		t.Fatal(e)
	}
	return s
}

func TestExample(t *testing.T) {
	f, e := file.New(4000)
	if e != api.OK {
		t.Fatal(e)
	}
	f, e = Add(f, 5, "a", "b")
	if e != api.OK {
		t.Fatalf("P13.2: %d", e)
	}
	if l, e := Read(f, 5); e != api.OK || !slices.Equal(l, []string{"a", "b"}) {
		t.Errorf("P13.2: %q, %d", l, e)
	}
	if l, e := Read(f, 4); e != api.OK || len(l) != 0 {
		t.Errorf("P13.2: %q, %d", l, e)
	}
	f, e = file.Crash(f, len(file.Read(f))-1)
	if e != api.OK {
		t.Fatal(e)
	}
	if l, e := Read(f, 5); e != api.OK || !slices.Equal(l, []string{"a"}) {
		t.Errorf("P13.2: %q, %d", l, e)
	}
}

func TestPut(t *testing.T) {
	for _, r := range recorded {
		if s, e := Put(r.n, r.text); e != api.OK || s != r.s {
			t.Errorf("P13.1: Put(%d, %.20q): %.40q, %d, not %.40q", r.n, r.text, s, e, r.s)
		}
	}
}

func TestPutRefuses(t *testing.T) {
	for _, n := range noNumbers {
		for _, s := range []string{"", "a", long(1001)} {
			if r, e := Put(n, s); e != api.ErrArg || r != "" {
				t.Errorf("P13.1: Put(%d, %d bytes): %.20q, %d", n, len(s), r, e)
			}
		}
	}
	for _, n := range []int{0, 1, 5, last} {
		for _, size := range []int{1001, 1002, 2999, 3000, 3001, 1 << 20} {
			if r, e := Put(n, long(size)); e != api.ErrLimit || r != "" {
				t.Errorf("P13.1: Put(%d, %d bytes): %.20q, %d", n, size, r, e)
			}
		}
	}
}

func TestScanOfOne(t *testing.T) {
	for _, r := range recorded {
		for _, behind := range []string{"", "x", "\x00", "\xff", "\x01\xff", r.s, "long, with ends \xff\xfe in it"} {
			if l, n := Scan(r.s+behind, r.n); !slices.Equal(l, []string{r.text}) || n != len(r.s) {
				t.Errorf("P13.1: Scan of %d, %.20q with %.20q behind: %.40q, %d", r.n, r.text, behind, l, n)
			}
		}
	}
}

func TestScanOfSeveral(t *testing.T) {
	a, b, c := put(t, 5, "ab"), put(t, 6, ""), put(t, 7, "c")
	for _, x := range []struct {
		b     string
		first int
		want  []string
		n     int
	}{
		{"", 5, nil, 0},
		{"", 0, nil, 0},
		{a + b + c, 5, []string{"ab", "", "c"}, len(a + b + c)},
		{b + c, 6, []string{"", "c"}, len(b + c)},
		{b, 6, []string{""}, len(b)},
		{a + b + c, 4, nil, 0},
		{a + b + c, 6, nil, 0},
		{a + b + c, 0, nil, 0},
		{a + c, 5, []string{"ab"}, len(a)},
		{a + a + b, 5, []string{"ab"}, len(a)},
		{a + b + a, 5, []string{"ab", ""}, len(a + b)},
		{b + a, 5, nil, 0},
		{b + a, 6, []string{""}, len(b)},
		{"x" + a, 5, nil, 0},
		{a + "x" + b, 5, []string{"ab"}, len(a)},
		{row(t, last-1, "y", "z"), last - 1, []string{"y", "z"}, len(row(t, last-1, "y", "z"))},
	} {
		if l, n := Scan(x.b, x.first); !slices.Equal(l, x.want) || n != x.n {
			t.Errorf("P13.1: Scan(%q, %d): %q, %d", x.b, x.first, l, n)
		}
	}
}

func TestScanOfVeryMany(t *testing.T) {
	want := make([]string, 20000)
	b := strings.Builder{}
	for i := range want {
		want[i] = strings.Repeat("z", i%5)
		b.WriteString(put(t, last-len(want)+i+1, want[i]))
	}
	if l, n := Scan(b.String(), last-len(want)+1); !slices.Equal(l, want) || n != b.Len() {
		t.Errorf("P13.1: %d texts, %d bytes", len(l), n)
	}
}

// What looks like a record of the number that is asked for, but is none, ends the records, even if more stand behind it.
func TestScanEndsAtOthers(t *testing.T) {
	type other struct {
		n int
		s string
	}
	all := []other{
		{7, forge(t, 0, "\x07\xffa")}, {7, forge(t, 2, "\x07\xffa")}, {7, forge(t, 99, "\x07\xffa")},
		{0, forge(t, 1, "")}, {7, forge(t, 1, "")}, {7, forge(t, 1, "\x07")}, {7, forge(t, 1, "\x07a")},
		{7, forge(t, 1, "\x07\x00\xffa")}, {7, forge(t, 1, "\x07\xfa\xff")}, {0, forge(t, 1, "\x00\xffa")}, {0, forge(t, 1, "\xfea")},
		{7, forge(t, 1, "\x07\xfea")}, {-7, forge(t, 1, "\x07\xfea")}, {-1, forge(t, 1, "\x01\xfe")},
		{last + 1, forge(t, 1, "\x01\x00\x00@\xffa")}, {math.MaxInt32, forge(t, 1, "\x93\xb8\x6d\x89\xffa")},
		{7, forge(t, 1, "\x07\xff"+long(1001))}, {0, forge(t, 1, "\xff"+long(1001))}, {7, forge(t, 1, "\x07\xff"+long(2998))},
		{7, "\x01\xff\x04\xff\x07\xff\x07\xffX\x9a\xff"}, {7, "\x01\xff\x04\xff\x07\xff\x07\xffW\x9a\xfe"}, {7, "\x01\xff\x04\xff\x07\xff\x08\xffW\x9a\xff"},
	}
	for _, x := range all {
		for _, behind := range []string{"", put(t, 7, "a"), put(t, 8, "a")} {
			if l, n := Scan(x.s+behind, x.n); len(l) != 0 || n != 0 {
				t.Errorf("P13.1: Scan(%.40q, %d): %.40q, %d", x.s, x.n, l, n)
			}
			if x.n < 1 || x.n > last {
				continue
			}
			ahead := put(t, x.n-1, "ahead")
			if l, n := Scan(ahead+x.s+behind, x.n-1); !slices.Equal(l, []string{"ahead"}) || n != len(ahead) {
				t.Errorf("P13.1: Scan of one ahead of %.40q: %.40q, %d", x.s, l, n)
			}
		}
	}
	ahead := put(t, last, "a")
	if l, n := Scan(ahead+forge(t, 1, "\x01\x00\x00@\xffa"), last); !slices.Equal(l, []string{"a"}) || n != len(ahead) {
		t.Errorf("P13.1: behind the last number: %q, %d", l, n)
	}
}

func TestScanOfNoNumbers(t *testing.T) {
	for _, first := range noNumbers {
		for _, r := range recorded {
			if l, n := Scan(r.s, first); len(l) != 0 || n != 0 {
				t.Errorf("P13.1: Scan(%.40q, %d): %.40q, %d", r.s, first, l, n)
			}
		}
	}
}

// Which bytes are cut off, lost or turned: no record is told that has one of them.
func TestScanOfWhatIsBroken(t *testing.T) {
	ahead, r, behind := put(t, 249, "ahead"), recorded[6].s, put(t, 251, "behind")
	check := func(what string, i int, broken string) {
		t.Helper()
		if l, n := Scan(broken, 250); len(l) != 0 || n != 0 {
			t.Errorf("P13.1: byte %d %s: %q, %d", i, what, l, n)
		}
		if l, n := Scan(ahead+broken, 249); !slices.Equal(l, []string{"ahead"}) || n != len(ahead) {
			t.Errorf("P13.1: byte %d %s, behind a whole one: %q, %d", i, what, l, n)
		}
	}
	for i := range len(r) {
		check("cut", i, r[:i])
		for _, b := range []string{"", behind} {
			check("lost", i, r[:i]+r[i+1:]+b)
			for x := range 256 {
				if r[i] != byte(x) {
					check("turned", i, r[:i]+string([]byte{byte(x)})+r[i+1:]+b)
				}
			}
		}
	}
}

func TestListsAreNew(t *testing.T) {
	b := row(t, 1, "a", "b", "c")
	l, _ := Scan(b, 1)
	m, _ := Scan(b, 1)
	l = append(l[:1], "x", "y", "z")
	if !slices.Equal(m, []string{"a", "b", "c"}) || l[1] != "x" {
		t.Errorf("R2: %q, %q", l, m)
	}
	f := api.File{Most: 100, Kept: b}
	l, _ = Read(f, 1)
	l[0] = "x"
	if m, e := Read(f, 1); e != api.OK || !slices.Equal(m, []string{"a", "b", "c"}) {
		t.Errorf("R2: %q, %d", m, e)
	}
}

// wrong are files that are not right.
func wrong(t *testing.T) []api.File {
	r := put(t, 5, "a")
	return []api.File{
		{}, {Most: 0, Kept: r}, {Most: -1}, {Most: 4001}, {Most: 4001, Kept: r}, {Most: 1<<32 + 100, Loose: r}, {Most: math.MinInt}, {Most: math.MaxInt, Kept: r},
		{Most: len(r) - 1, Kept: r}, {Most: len(r) - 1, Loose: r}, {Most: len(r), Kept: r, Loose: "x"}, {Most: 4000, Kept: r, Loose: long(4000)},
	}
}

func TestWrongFiles(t *testing.T) {
	for i, f := range wrong(t) {
		for _, n := range append([]int{0, 5, last}, noNumbers...) {
			for _, l := range [][]string{nil, {""}, {"a", "b"}, {long(1001)}, {long(1000), long(1000), long(1000), long(1000), long(1000)}} {
				if c, e := Add(f, n, l...); e != api.ErrArg || c != (api.File{}) {
					t.Errorf("P13.2: %d: Add %d: %+v, %d", i, n, c, e)
				}
			}
			if l, e := Read(f, n); e != api.ErrArg || len(l) != 0 {
				t.Errorf("P13.2: %d: Read %d: %q, %d", i, n, l, e)
			}
			if c, many, e := Mend(f, n); e != api.ErrArg || c != (api.File{}) || many != 0 {
				t.Errorf("P13.2: %d: Mend %d: %+v, %d, %d", i, n, c, many, e)
			}
		}
	}
}

func TestAdd(t *testing.T) {
	for _, f := range []api.File{{Most: 4000}, {Most: 3000, Kept: "kept"}, {Most: 3000, Loose: "loose"}, {Most: 4000, Kept: row(t, 3, "c", "d"), Loose: put(t, 5, "e")}} {
		for _, x := range []struct {
			n int
			l []string
		}{
			{0, []string{""}}, {0, []string{"a", "b", "c"}}, {5, []string{"ab", ""}}, {6, []string{"f"}}, {249, []string{"\xff", "\xfe\x00", "é"}},
			{last, []string{"z"}}, {last - 1, []string{"y", "z"}}, {last - 2, []string{"", "", ""}},
			{9, []string{long(1000), long(999)}}, {1, slices.Repeat([]string{"q"}, 100)},
		} {
			want := f
			want.Loose += row(t, x.n, x.l...)
			if c, e := Add(f, x.n, x.l...); e != api.OK || c != want {
				t.Errorf("P13.2: Add(%+v, %d, %d texts): %d, %d bytes", f, x.n, len(x.l), e, len(file.Read(c)))
			}
		}
	}
}

// Where there is no text there is no number, and none of them is wrong.
func TestAddOfNoTexts(t *testing.T) {
	for _, f := range []api.File{{Most: 1}, {Most: 1, Kept: "a"}, {Most: 4000, Kept: "a", Loose: "b"}} {
		for _, n := range append([]int{0, 5, last}, noNumbers...) {
			if c, e := Add(f, n); e != api.OK || c != f {
				t.Errorf("P13.2: Add(%+v, %d): %+v, %d", f, n, c, e)
			}
		}
	}
}

func TestAddRefusesNumbers(t *testing.T) {
	f := api.File{Most: 20, Loose: "a"}
	for _, n := range noNumbers {
		for _, l := range [][]string{{"a"}, {"a", "b"}, {"a", long(1001)}, {long(1001)}, {long(1000)}, {"", "", "", "", "", "", ""}} {
			if c, e := Add(f, n, l...); e != api.ErrArg || c != (api.File{}) {
				t.Errorf("P13.2: Add %d of %d texts: %+v, %d", n, len(l), c, e)
			}
		}
	}
	for _, x := range []struct {
		n int
		l []string
	}{
		{last, []string{"", ""}}, {last - 1, []string{"", "", ""}}, {last, []string{long(1001), ""}}, {last, []string{long(1000), long(1000)}},
		{last - 99, make([]string, 101)},
	} {
		if c, e := Add(f, x.n, x.l...); e != api.ErrArg || c != (api.File{}) {
			t.Errorf("P13.2: Add %d of %d texts: %+v, %d", x.n, len(x.l), c, e)
		}
	}
}

func TestAddRefusesLongTexts(t *testing.T) {
	for _, f := range []api.File{{Most: 4000}, {Most: 1}, {Most: 1, Kept: "a"}} {
		for _, l := range [][]string{{long(1001)}, {"", long(1001)}, {long(1001), ""}, {long(4000)}, {long(1000), long(1000), long(1000), long(1000), long(1000), long(1001)}} {
			if c, e := Add(f, 5, l...); e != api.ErrLimit || c != (api.File{}) {
				t.Errorf("P13.2: Add of %d texts: %+v, %d", len(l), c, e)
			}
		}
	}
}

func TestAddFillsAFile(t *testing.T) {
	l := []string{"abcdef", "", "g"}
	all := row(t, 5, l...)
	for room := range len(all) + 2 {
		f := api.File{Most: room + 2, Kept: "k", Loose: "l"}
		c, e := Add(f, 5, l...)
		if room < len(all) {
			if e != api.ErrFull || c != (api.File{}) {
				t.Errorf("P13.2: Add of %d bytes where there is room for %d: %+v, %d", len(all), room, c, e)
			}
		} else if e != api.OK || c.Kept != "k" || c.Loose != "l"+all {
			t.Errorf("P13.2: Add of %d bytes where there is room for %d: %+v, %d", len(all), room, c, e)
		}
	}
}

// Texts that are much too long together are told as such, and are not laid first.
func TestAddOfVeryMuch(t *testing.T) {
	l := slices.Repeat([]string{long(1000)}, 1<<20)
	if c, e := Add(api.File{Most: 4000}, 0, l...); e != api.ErrFull || c != (api.File{}) {
		t.Errorf("P13.2: %+v, %d", c, e)
	}
}

func TestAddLeavesTextsAlone(t *testing.T) {
	l := []string{"a", "b", "", "c"}
	f, e := Add(api.File{Most: 100}, 5, l[:2]...)
	if e != api.OK || !slices.Equal(l, []string{"a", "b", "", "c"}) {
		t.Errorf("R2: %q, %d", l, e)
	}
	l[0], l[1] = "x", "y"
	if file.Read(f) != row(t, 5, "a", "b") {
		t.Errorf("R2: %q", file.Read(f))
	}
}

// Wherever the bytes of a file are parted into kept and loose ones, it is read and mended alike.
func TestReadAndMend(t *testing.T) {
	a, b, c := put(t, 5, "ab"), put(t, 6, ""), put(t, 7, "c")
	for _, x := range []struct {
		b     string
		first int
		want  []string
		n     int
	}{
		{"", 5, nil, 0},
		{a + b + c, 5, []string{"ab", "", "c"}, len(a + b + c)},
		{a + b + c[:len(c)-1], 5, []string{"ab", ""}, len(a + b)},
		{a + b + c + "x", 5, []string{"ab", "", "c"}, len(a + b + c)},
		{a + c, 5, []string{"ab"}, len(a)},
		{a + b[1:] + c, 5, []string{"ab"}, len(a)},
		{a + b + c, 4, nil, 0},
		{a + b + c, -5, nil, 0},
		{a + b + c, math.MaxInt, nil, 0},
		{a + b + c, math.MinInt, nil, 0},
		{"x" + a, 5, nil, 0},
	} {
		for i := range len(x.b) + 1 {
			f := api.File{Most: 100, Kept: x.b[:i], Loose: x.b[i:]}
			if l, e := Read(f, x.first); e != api.OK || !slices.Equal(l, x.want) {
				t.Errorf("P13.2: Read(%+v, %d): %q, %d", f, x.first, l, e)
			}
			want := api.File{Most: 100, Kept: x.b[:x.n]}
			if m, many, e := Mend(f, x.first); e != api.OK || m != want || many != len(x.want) {
				t.Errorf("P13.2: Mend(%+v, %d): %+v, %d, %d", f, x.first, m, many, e)
			}
		}
	}
}

func TestAddedIsReadBehindWhatThereWas(t *testing.T) {
	f := api.File{Most: 4000}
	var want []string
	for i, l := range [][]string{{"a"}, nil, {"b", "c"}, {""}, {"d", "\xff\xfe", long(1000)}, {long(999)}, {"é"}} {
		var e api.Errno
		if f, e = Add(f, 9+len(want), l...); e != api.OK {
			t.Fatalf("P13.3: %d: %d", i, e)
		}
		want = append(want, l...)
		if i == 3 {
			f, _ = file.Sync(f)
		}
		if l, e := Read(f, 9); e != api.OK || !slices.Equal(l, want) {
			t.Errorf("P13.3: %d: %d texts, %d", i, len(l), e)
		}
	}
}

// A file of some synced and some loose records is cut by a crash at each of its bytes, mended, and goes on.
func TestCrashAndMend(t *testing.T) {
	texts := []string{"one", "", "two\xff", "three", "\x01\xff\x00"}
	for synced := range len(texts) + 1 {
		f := api.File{Most: 200, Kept: row(t, 40, texts[:synced]...), Loose: row(t, 40+synced, texts[synced:]...)}
		for n := range len(f.Loose) + 1 {
			c, _ := file.Crash(f, n)
			m, many, e := Mend(c, 40)
			if e != api.OK || many < synced || m.Loose != "" || m.Kept != row(t, 40, texts[:many]...) {
				t.Fatalf("P13.3: %d synced, Crash %d, Mend: %+v, %d, %d", synced, n, m, many, e)
			}
			if many < len(texts) && n >= len(row(t, 40, texts[:many+1]...))-len(f.Kept) {
				t.Errorf("P13.3: %d synced, Crash %d: text %d stood whole, but is gone", synced, n, many)
			}
			m, e = Add(m, 40+many, "more", "still")
			if e != api.OK {
				t.Fatalf("P13.3: %d synced, Crash %d, Mend, Add: %d", synced, n, e)
			}
			want := append(slices.Clone(texts[:many]), "more", "still")
			if l, e := Read(m, 40); e != api.OK || !slices.Equal(l, want) {
				t.Errorf("P13.3: %d synced, Crash %d, Mend, Add: %q, %d", synced, n, l, e)
			}
		}
	}
}

// byHand is what a file has: texts, of which the first ones are synced.
type byHand struct {
	first, synced int
	texts         []string
}

// step does one thing to the file and by hand; it tells what both have become.
func step(t *testing.T, r *rand.Rand, f api.File, h byHand) (api.File, byHand) {
	switch r.Intn(6) {
	case 0, 1, 2:
		l := make([]string, r.Intn(4))
		for i := range l {
			l[i] = string([]byte{byte(r.Intn(256)), byte(255 - r.Intn(9)), byte(r.Intn(256))}[:r.Intn(4)])
		}
		c, e := Add(f, h.first+len(h.texts), l...)
		if e == api.ErrFull && c == (api.File{}) && len(file.Read(f)+row(t, h.first+len(h.texts), l...)) > f.Most {
			return f, h
		}
		if e != api.OK {
			t.Fatalf("P13.2: Add(%+v, %q): %+v, %d", f, l, c, e)
		}
		f = c
		h.texts = append(slices.Clone(h.texts), l...)
	case 3:
		f, _ = file.Sync(f)
		h.synced = len(h.texts)
	case 4, 5:
		crashed, _ := file.Crash(f, r.Intn(len(f.Loose)+1))
		m, many, e := Mend(crashed, h.first)
		if e != api.OK || many < h.synced || many > len(h.texts) || m.Loose != "" {
			t.Fatalf("P13.3: Mend(%+v, %d) of %q: %+v, %d, %d", crashed, h.first, h.texts, m, many, e)
		}
		f = m
		h.texts = h.texts[:many]
		h.synced = many
	}
	if l, e := Read(f, h.first); e != api.OK || !slices.Equal(l, h.texts) || file.Read(f) != row(t, h.first, h.texts...) {
		t.Fatalf("P13.3: %+v: %q, %d, not %q", f, l, e, h.texts)
	}
	return f, h
}

func TestAgainstTextsByHand(t *testing.T) {
	r := rand.New(rand.NewSource(13))
	for range 300 {
		f, _ := file.New(r.Intn(300) + 1)
		h := byHand{first: r.Intn(600)}
		for range 40 {
			f, h = step(t, r, f, h)
		}
	}
}

func FuzzScan(f *testing.F) {
	for _, r := range recorded {
		f.Add(r.s, r.n)
		f.Add(r.s+r.s, r.n)
		f.Add("x"+r.s, r.n)
	}
	f.Fuzz(func(t *testing.T, b string, first int) {
		l, n := Scan(b, first)
		if n < 0 || n > len(b) || (n == 0) != (len(l) == 0) {
			t.Fatalf("P13.1: %d texts in %d bytes", len(l), n)
		}
		if len(l) > 0 && row(t, first, l...) != b[:n] {
			t.Errorf("P13.1: what is told is not laid as it was: %q", l)
		}
		if more, _ := Scan(b[n:], first+len(l)); len(more) != 0 {
			t.Errorf("P13.1: %q stand behind", more)
		}
	})
}
