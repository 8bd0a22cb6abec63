package file

import (
	"math"
	"math/rand"
	"slices"
	"strings"
	"testing"

	"watchman/api"
)

const most = 4000

func of4(kept, loose string) api.File { return api.File{Most: 4, Kept: kept, Loose: loose} }

func long(n int) string { return strings.Repeat("x", n) }

// noMosts are numbers that no file is made for: some would be one, were they cut to fewer bits.
var noMosts = []int{0, -1, -4, -4000, 4001, 4096, 1 << 16, 1<<16 + 1, 1 << 31, 1 << 32, 1<<32 + 4, -1<<32 + 4, math.MaxInt, math.MinInt}

// wrong are files that are not right.
func wrong() []api.File {
	l := []api.File{
		{},
		{Most: 1, Kept: "ab"}, {Most: 1, Loose: "ab"}, {Most: 1, Kept: "a", Loose: "b"},
		{Most: 2, Kept: "ab", Loose: "c"}, {Most: 2, Kept: "a", Loose: "bc"},
		{Most: most, Kept: long(most + 1)}, {Most: most, Loose: long(most + 1)},
		{Most: most, Kept: long(most), Loose: "x"}, {Most: most, Kept: "x", Loose: long(most)},
		{Most: most, Kept: long(most), Loose: long(most)},
	}
	for _, n := range noMosts {
		l = append(l, api.File{Most: n}, api.File{Most: n, Kept: "a", Loose: "b"})
	}
	return l
}

// right are files that are right: of some bytes, kept and loose, up to both ends.
func right() []api.File {
	return []api.File{
		{Most: 1}, {Most: 1, Kept: "a"}, {Most: 1, Loose: "a"},
		{Most: 2, Kept: "a", Loose: "b"},
		{Most: most}, {Most: most, Kept: long(most)}, {Most: most, Loose: long(most)},
		{Most: most, Kept: long(most - 1), Loose: "y"}, {Most: most, Kept: "y", Loose: long(most - 1)},
		of4("", ""), of4("ab", ""), of4("", "ab"), of4("ab", "cd"), of4("abc", "d"), of4("a", "bcd"),
		of4("\x00\xff", "\xfe\x00"), of4("", "\x00"), of4("\x80", ""), of4("é", "é"),
		{Most: 9, Kept: "ab", Loose: "ab"}, {Most: 3999, Kept: "ab", Loose: "cde"},
	}
}

// counts are numbers of bytes: those of short files, and such as no file has.
var counts = []int{-1, -2, 0, 1, 2, 3, 4, 5, 3998, 3999, 4000, 4001, 1 << 31, 1 << 32, 1<<32 + 1, -1<<32 + 1, math.MaxInt, math.MaxInt - 1, math.MinInt, math.MinInt + 1}

func TestExample(t *testing.T) {
	f, e := New(5)
	if e != api.OK {
		t.Fatalf("P12.1: %d", e)
	}
	f, e = Add(f, "ab")
	if e != api.OK {
		t.Fatalf("P12.2: %d", e)
	}
	f, e = Sync(f)
	if e != api.OK {
		t.Fatalf("P12.2: %d", e)
	}
	f, e = Add(f, "cd")
	if e != api.OK {
		t.Fatalf("P12.2: %d", e)
	}
	if c, e := Crash(f, 1); e != api.OK || Read(c) != "abc" {
		t.Errorf("P12.3: %+v, %d", c, e)
	}
	if c, e := Crash(f, 0); e != api.OK || Read(c) != "ab" {
		t.Errorf("P12.3: %+v, %d", c, e)
	}
	if c, e := Add(f, "xy"); e != api.ErrFull || c != (api.File{}) {
		t.Errorf("P12.2: %+v, %d", c, e)
	}
}

func TestNew(t *testing.T) {
	for _, n := range []int{1, 2, 3, 255, 256, 3999, 4000} {
		if f, e := New(n); e != api.OK || f != (api.File{Most: n}) || !Is(f) || Read(f) != "" {
			t.Errorf("P12.1: New(%d): %+v, %d", n, f, e)
		}
	}
	for _, n := range noMosts {
		if f, e := New(n); e != api.ErrArg || f != (api.File{}) {
			t.Errorf("P12.1: New(%d): %+v, %d", n, f, e)
		}
	}
}

func TestIs(t *testing.T) {
	for i, f := range right() {
		if !Is(f) {
			t.Errorf("P12.1: right %d is not", i)
		}
	}
	for i, f := range wrong() {
		if Is(f) {
			t.Errorf("P12.1: wrong %d is", i)
		}
	}
}

func TestReadOfAny(t *testing.T) {
	for i, f := range slices.Concat(right(), wrong()) {
		if s := Read(f); s != f.Kept+f.Loose {
			t.Errorf("P12.1: %d: %d bytes of %d", i, len(s), len(f.Kept)+len(f.Loose))
		}
	}
	if s := Read(of4("ab", "cd")); s != "abcd" {
		t.Errorf("P12.1: %q", s)
	}
}

func TestWrongFiles(t *testing.T) {
	for i, f := range wrong() {
		var all []string
		tell := func(what string, c api.File, e api.Errno) {
			if e != api.ErrArg || c != (api.File{}) {
				all = append(all, what)
			}
		}
		for _, parts := range [][]string{nil, {""}, {"a"}, {long(5000)}} {
			c, e := Add(f, parts...)
			tell("Add", c, e)
		}
		c, e := Sync(f)
		tell("Sync", c, e)
		for _, n := range counts {
			c, e := Crash(f, n)
			tell("Crash", c, e)
			c, e = Cut(f, n)
			tell("Cut", c, e)
		}
		if all != nil {
			t.Errorf("P12.1: wrong %d is taken by %v", i, all)
		}
	}
}

func TestAdd(t *testing.T) {
	for _, c := range []struct {
		f     api.File
		parts []string
		want  api.File
		e     api.Errno
	}{
		{of4("", ""), nil, of4("", ""), api.OK},
		{of4("ab", "cd"), nil, of4("ab", "cd"), api.OK},
		{of4("ab", "cd"), []string{""}, of4("ab", "cd"), api.OK},
		{of4("ab", "cd"), []string{"", "", ""}, of4("ab", "cd"), api.OK},
		{of4("ab", "cd"), []string{"e"}, api.File{}, api.ErrFull},
		{of4("ab", "cd"), []string{"", "e", ""}, api.File{}, api.ErrFull},
		{of4("", ""), []string{"abcd"}, of4("", "abcd"), api.OK},
		{of4("", ""), []string{"a", "b", "c", "d"}, of4("", "abcd"), api.OK},
		{of4("", ""), []string{"a", "b", "c", "d", "e"}, api.File{}, api.ErrFull},
		{of4("", ""), []string{"abcde"}, api.File{}, api.ErrFull},
		{of4("", ""), []string{"abcde", ""}, api.File{}, api.ErrFull},
		{of4("a", "b"), []string{"dc", ""}, of4("a", "bdc"), api.OK},
		{of4("a", "b"), []string{"d", "c"}, of4("a", "bdc"), api.OK},
		{of4("a", "b"), []string{"dce"}, api.File{}, api.ErrFull},
		{of4("a", "b"), []string{"d", "ce"}, api.File{}, api.ErrFull},
		{of4("abc", ""), []string{"\x00"}, of4("abc", "\x00"), api.OK},
		{of4("abc", ""), []string{"é"}, api.File{}, api.ErrFull},
		{of4("ab", ""), []string{"é"}, of4("ab", "é"), api.OK},
		{api.File{Most: most}, []string{long(most)}, api.File{Most: most, Loose: long(most)}, api.OK},
		{api.File{Most: most}, []string{long(most + 1)}, api.File{}, api.ErrFull},
		{api.File{Most: most}, []string{long(most), "x"}, api.File{}, api.ErrFull},
		{api.File{Most: most, Kept: "a", Loose: "b"}, []string{long(most - 3), "y"}, api.File{Most: most, Kept: "a", Loose: "b" + long(most-3) + "y"}, api.OK},
	} {
		if f, e := Add(c.f, c.parts...); e != c.e || f != c.want {
			t.Errorf("P12.2: Add(%+v, %q): %+v, %d", c.f, c.parts, f, e)
		}
	}
}

// Parts that are much too long together are told as such, and are not put together first.
func TestAddOfVeryMuch(t *testing.T) {
	parts := slices.Repeat([]string{long(1 << 20)}, 1<<10)
	if f, e := Add(of4("a", ""), parts...); e != api.ErrFull || f != (api.File{}) {
		t.Errorf("P12.2: %+v, %d", f, e)
	}
}

func TestAddLeavesPartsAlone(t *testing.T) {
	parts := []string{"a", "b", "", "c"}
	f, e := Add(of4("", ""), parts[:2]...)
	if e != api.OK || !slices.Equal(parts, []string{"a", "b", "", "c"}) {
		t.Errorf("R2: %q, %d", parts, e)
	}
	parts[0], parts[1] = "x", "y"
	if Read(f) != "ab" {
		t.Errorf("R2: %q", Read(f))
	}
}

func TestSync(t *testing.T) {
	for i, f := range right() {
		if c, e := Sync(f); e != api.OK || c != (api.File{Most: f.Most, Kept: f.Kept + f.Loose}) {
			t.Errorf("P12.2: %d: %d", i, e)
		}
	}
}

func TestCrash(t *testing.T) {
	for _, c := range []struct {
		f    api.File
		n    int
		kept string
	}{
		{of4("ab", "cd"), 0, "ab"}, {of4("ab", "cd"), 1, "abc"}, {of4("ab", "cd"), 2, "abcd"}, {of4("ab", "cd"), 3, "abcd"},
		{of4("ab", "cd"), -1, "ab"}, {of4("ab", "cd"), -2, "ab"}, {of4("ab", "cd"), -3, "ab"},
		{of4("ab", "cd"), math.MaxInt, "abcd"}, {of4("ab", "cd"), math.MaxInt - 1, "abcd"}, {of4("ab", "cd"), math.MinInt, "ab"},
		{of4("ab", "cd"), 1 << 32, "abcd"}, {of4("ab", "cd"), 1<<32 + 1, "abcd"}, {of4("ab", "cd"), -1<<32 + 1, "ab"},
		{of4("", "abcd"), 0, ""}, {of4("", "abcd"), 3, "abc"}, {of4("", "abcd"), 4, "abcd"},
		{of4("abcd", ""), 0, "abcd"}, {of4("abcd", ""), 1, "abcd"}, {of4("abcd", ""), -1, "abcd"},
		{of4("", ""), 0, ""}, {of4("", ""), 9, ""}, {of4("a", "é"), 1, "a\xc3"},
	} {
		if f, e := Crash(c.f, c.n); e != api.OK || f != of4(c.kept, "") {
			t.Errorf("P12.3: Crash(%+v, %d): %+v, %d", c.f, c.n, f, e)
		}
	}
}

func TestCut(t *testing.T) {
	for i, f := range right() {
		all := f.Kept + f.Loose
		for _, n := range append(slices.Clone(counts), len(all)-1, len(all), len(all)+1, len(f.Kept)) {
			c, e := Cut(f, n)
			if n < 0 || n > len(all) {
				if e != api.ErrArg || c != (api.File{}) {
					t.Errorf("P12.3: %d: Cut to %d of %d: %d", i, n, len(all), e)
				}
				continue
			}
			if e != api.OK || c != (api.File{Most: f.Most, Kept: all[:n]}) {
				t.Errorf("P12.3: %d: Cut to %d of %d: %d", i, n, len(all), e)
			}
		}
	}
}

func TestSyncedIsNotLost(t *testing.T) {
	for i, f := range right() {
		synced, _ := Sync(f)
		for _, n := range counts {
			if c, e := Crash(synced, n); e != api.OK || c != synced || Read(c) != Read(f) {
				t.Errorf("P12.4: %d: Crash %d behind Sync: %d", i, n, e)
			}
		}
	}
}

func TestCrashGoesOnAsLooseDid(t *testing.T) {
	for i, f := range right() {
		for _, n := range counts {
			c, e := Crash(f, n)
			told := c.Kept[min(len(f.Kept), len(c.Kept)):]
			if e != api.OK || !strings.HasPrefix(c.Kept, f.Kept) || !strings.HasPrefix(f.Loose, told) || len(told) != max(0, min(n, len(f.Loose))) {
				t.Errorf("P12.4: %d: Crash %d: %d", i, n, e)
			}
		}
	}
}

// byHand is a file as a row of single bytes, of which the first ones are kept.
type byHand struct {
	most, kept int
	bytes      []byte
}

func (h byHand) file() api.File {
	return api.File{Most: h.most, Kept: string(h.bytes[:h.kept]), Loose: string(h.bytes[h.kept:])}
}

func (h byHand) cut(n int) byHand {
	h.bytes = slices.Clone(h.bytes[:n])
	h.kept = n
	return h
}

func (h byHand) add(parts []string) (byHand, bool) {
	h.bytes = slices.Clone(h.bytes)
	for _, p := range parts {
		for i := range len(p) {
			h.bytes = append(h.bytes, p[i])
		}
	}
	return h, len(h.bytes) <= h.most
}

// step does one thing to both; it tells what the file has become.
func step(t *testing.T, r *rand.Rand, f api.File, h byHand) (api.File, byHand) {
	var c api.File
	var e api.Errno
	want, ok := h, true
	switch r.Intn(5) {
	case 0, 1:
		parts := make([]string, r.Intn(4))
		for i := range parts {
			parts[i] = string([]byte{byte(r.Intn(256)), byte(r.Intn(256)), byte(r.Intn(256))}[:r.Intn(4)])
		}
		c, e = Add(f, parts...)
		if want, ok = h.add(parts); !ok && e != api.ErrFull {
			t.Fatalf("P12.2: Add(%+v, %q): %d", f, parts, e)
		}
	case 2:
		c, e = Sync(f)
		want = h.cut(len(h.bytes))
	case 3:
		n := r.Intn(12) - 3
		c, e = Crash(f, n)
		want = h.cut(h.kept + max(0, min(n, len(h.bytes)-h.kept)))
	case 4:
		n := r.Intn(14) - 1
		c, e = Cut(f, n)
		if ok = n >= 0 && n <= len(h.bytes); ok {
			want = h.cut(n)
		} else if e != api.ErrArg {
			t.Fatalf("P12.3: Cut(%+v, %d): %d", f, n, e)
		}
	}
	if !ok {
		if c != (api.File{}) {
			t.Fatalf("R1: %+v beside %d", c, e)
		}
		return f, h
	}
	if e != api.OK || c != want.file() || !Is(c) || Read(c) != string(want.bytes) {
		t.Fatalf("P12.4: %+v became %+v, %d", f, c, e)
	}
	return c, want
}

func TestAgainstBytesByHand(t *testing.T) {
	r := rand.New(rand.NewSource(12))
	for range 500 {
		n := r.Intn(20) + 1
		f, _ := New(n)
		h := byHand{most: n}
		for range 40 {
			f, h = step(t, r, f, h)
		}
	}
}

func FuzzFile(f *testing.F) {
	f.Add(4, "ab", "cd", "", "", 1)
	f.Add(5, "ab", "", "c", "d", -1)
	f.Add(4000, "", "x", "y", "z", 1<<40)
	f.Fuzz(func(t *testing.T, most int, kept, loose, a, b string, n int) {
		x := api.File{Most: most, Kept: kept, Loose: loose}
		added, e1 := Add(x, a, b)
		synced, e2 := Sync(x)
		crashed, e3 := Crash(x, n)
		cut, e4 := Cut(x, n)
		if !Is(x) {
			if e1 != api.ErrArg || e2 != api.ErrArg || e3 != api.ErrArg || e4 != api.ErrArg {
				t.Errorf("P12.1: %+v: %d, %d, %d, %d", x, e1, e2, e3, e4)
			}
			return
		}
		if e1 == api.OK && (Read(added) != Read(x)+a+b || added.Kept != kept || !Is(added)) {
			t.Errorf("P12.2: %+v", added)
		}
		if e2 != api.OK || synced.Kept != kept+loose || synced.Loose != "" {
			t.Errorf("P12.2: %+v, %d", synced, e2)
		}
		if e3 != api.OK || crashed.Loose != "" || !strings.HasPrefix(Read(x), crashed.Kept) || len(crashed.Kept) < len(kept) {
			t.Errorf("P12.3: %+v, %d", crashed, e3)
		}
		if e4 == api.OK && (len(cut.Kept) != n || cut.Loose != "" || !strings.HasPrefix(Read(x), cut.Kept)) {
			t.Errorf("P12.3: %+v", cut)
		}
	})
}
