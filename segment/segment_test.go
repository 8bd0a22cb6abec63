package segment

import (
	"math"
	"math/rand"
	"slices"
	"strings"
	"testing"

	"watchman/api"
	"watchman/file"
	"watchman/record"
)

const lastFirst = 900000000

func long(n int) string { return strings.Repeat("x", n) }

// noSizes and noFirsts are numbers that no log has: some would be one, were they cut to fewer bits.
var (
	noSizes  = []int{19, 18, 1, 0, -1, -20, -25, 4001, 4020, 1<<16 + 25, 1 << 31, 1 << 32, 1<<32 + 25, -1<<32 + 25, math.MaxInt, math.MinInt}
	noFirsts = []int{-1, -2, -lastFirst, lastFirst + 1, 1000000000, math.MaxInt32, 1 << 31, 1 << 32, 1<<32 + 5, -1<<32 + 5, math.MaxInt, math.MinInt}
)

// counts are numbers of bytes, or of records: those that a log may have, and such as none has.
var counts = []int{-1, 0, 1, 2, 5, 7, 20, 25, 4000, 4001, 1 << 31, 1 << 32, 1<<32 + 1, -1<<32 + 1, math.MaxInt, math.MaxInt - 1, math.MinInt, math.MinInt + 1}

// row are the records of l, of the numbers n, the one behind it, and so on.
func row(t *testing.T, n int, l ...string) string {
	t.Helper()
	all := ""
	for i, s := range l {
		r, e := record.Put(n+i, s)
		if e != api.OK {
			t.Fatalf("Put(%d, %.20q): %d", n+i, s, e)
		}
		all += r
	}
	return all
}

// kept is a log of these bytes, all of them kept.
func kept(size, first int, files ...string) api.Segs {
	s := api.Segs{Size: size, First: first}
	for _, b := range files {
		s.Files = append(s.Files, api.File{Most: size, Kept: b})
	}
	return s
}

// loosened is s with all bytes of its last file but the first n loose.
func loosened(s api.Segs, n int) api.Segs {
	s.Files = slices.Clone(s.Files)
	last := len(s.Files) - 1
	b := file.Read(s.Files[last])
	s.Files[last] = api.File{Most: s.Size, Kept: b[:n], Loose: b[n:]}
	return s
}

// laid is a log of rows of texts, each in a file of its own, all of them kept.
func laid(t *testing.T, size, first int, rows ...[]string) api.Segs {
	t.Helper()
	var files []string
	n := first
	for _, l := range rows {
		files = append(files, row(t, n, l...))
		n += len(l)
	}
	return kept(size, first, files...)
}

func same(a, b api.Segs) bool {
	return a.Size == b.Size && a.First == b.First && slices.Equal(a.Files, b.Files)
}

func isZero(s api.Segs) bool { return same(s, api.Segs{}) }

// added is s with l; it must have room.
func added(t *testing.T, s api.Segs, l ...string) api.Segs {
	t.Helper()
	c, e := Add(s, l...)
	if e != api.OK {
		t.Fatalf("P14.2: Add(%+v, %.40q): %d", s, l, e)
	}
	return c
}

// isRead tells whether s is right, and has these texts.
func isRead(t *testing.T, what string, s api.Segs, want []string) {
	t.Helper()
	l, e := Read(s)
	if !Is(s) || e != api.OK || !slices.Equal(l, want) {
		t.Errorf("%s: %+v: %.80q, %d, not %.80q", what, s, l, e, want)
	}
}

func TestExample(t *testing.T) {
	s, e := New(25, 5)
	if e != api.OK {
		t.Fatalf("P14.1: %d", e)
	}
	s = added(t, s, "a", "b", "c")
	if want := loosened(laid(t, 25, 5, []string{"a", "b"}, []string{"c"}), 0); !same(s, want) {
		t.Errorf("P14.2: %+v", s)
	}
	isRead(t, "P14.1", s, []string{"a", "b", "c"})
	if d, e := Drop(s, 6); e != api.OK || !same(d, s) {
		t.Errorf("P14.3: %+v, %d", d, e)
	}
	d, e := Drop(s, 7)
	if e != api.OK || d.First != 7 {
		t.Errorf("P14.3: %+v, %d", d, e)
	}
	isRead(t, "P14.3", d, []string{"c"})
}

func TestNew(t *testing.T) {
	for _, size := range []int{20, 21, 25, 255, 256, 3999, 4000} {
		for _, first := range []int{0, 1, 5, 250, lastFirst - 1, lastFirst} {
			s, e := New(size, first)
			if e != api.OK || !same(s, kept(size, first, "")) {
				t.Errorf("P14.1: New(%d, %d): %+v, %d", size, first, s, e)
			}
			isRead(t, "P14.1", s, nil)
		}
	}
	refuses := func(size, first int) {
		if s, e := New(size, first); e != api.ErrArg || !isZero(s) {
			t.Errorf("P14.1: New(%d, %d): %+v, %d", size, first, s, e)
		}
	}
	for _, size := range noSizes {
		for _, first := range append([]int{0, 5, lastFirst}, noFirsts...) {
			refuses(size, first)
		}
	}
	for _, first := range noFirsts {
		for _, size := range []int{20, 25, 4000} {
			refuses(size, first)
		}
	}
}

// right are logs that are right, whether their bytes are records' or not.
func right(t *testing.T) []api.Segs {
	ab, c := row(t, 5, "a", "b"), row(t, 7, "c")
	return []api.Segs{
		kept(20, 0, ""), kept(4000, 0, ""), kept(25, lastFirst, ""), kept(4000, 5, long(4000)),
		kept(25, 5, ab), kept(25, 5, ab, c), kept(25, 5, ab, ""), kept(25, 5, "", ab), kept(25, 5, "", ""), kept(25, 5, ab, "", c),
		kept(25, 4, ab, c), kept(25, 6, ab, c), kept(25, 5, ab, ab), kept(25, 5, c, ab), kept(25, 5, "x", c), kept(25, 5, ab+"x", c), kept(25, 5, ab, "x"+c), kept(25, 5, ab, c+"x"),
		kept(25, 5, long(25), long(25), long(25)), kept(20, 0, slices.Repeat([]string{""}, 20)...), kept(20, 0, slices.Repeat([]string{long(20)}, 20)...),
		loosened(kept(25, 5, ab), 0), loosened(kept(25, 5, ab, c), 0), loosened(kept(25, 5, ab, c), 3), loosened(kept(25, 5, ab), 9), loosened(kept(25, 5, ab, long(25)), 24),
	}
}

// wrong are logs that are not right.
func wrong(t *testing.T) []api.Segs {
	ab, c := row(t, 5, "a", "b"), row(t, 7, "c")
	l := []api.Segs{
		{}, {Size: 25}, {Size: 25, First: 5}, {Size: 25, First: 5, Files: []api.File{}}, {Size: 25, First: 5, Files: make([]api.File, 1)},
		kept(20, 0, slices.Repeat([]string{""}, 21)...), kept(4000, 0, slices.Repeat([]string{""}, 1000)...), kept(25, 5, long(26)), kept(25, 5, ab, c, long(26)), kept(25, 5, long(26), c),
		loosened(kept(25, 5, ab, long(26)), 0), loosened(kept(25, 5, ab, long(26)), 25), loosened(kept(4000, 5, long(4001)), 1),
	}
	good := kept(25, 5, ab, "", c)
	for i, f := range good.Files {
		turn := func(f api.File) {
			s := good
			s.Files = slices.Clone(s.Files)
			s.Files[i] = f
			l = append(l, s)
		}
		for _, most := range []int{24, 26, 0, -25, 4000, 4001, 1<<32 + 25, math.MaxInt, math.MinInt} {
			f.Most = most
			turn(f)
		}
		turn(api.File{})
		if i < len(good.Files)-1 {
			turn(api.File{Most: 25, Kept: f.Kept, Loose: "x"})
			turn(api.File{Most: 25, Loose: row(t, 5, "a")})
		}
	}
	for _, size := range noSizes {
		l = append(l, kept(size, 5, ""), kept(size, 5, ab), kept(size, 5, ab, c))
	}
	for _, first := range noFirsts {
		l = append(l, kept(25, first, ""), kept(25, first, ab, c))
	}
	return l
}

func TestIs(t *testing.T) {
	for i, s := range right(t) {
		if !Is(s) {
			t.Errorf("P14.1: right %d is not", i)
		}
	}
	for i, s := range wrong(t) {
		if Is(s) {
			t.Errorf("P14.1: wrong %d is", i)
		}
	}
}

func TestWrongLogs(t *testing.T) {
	for i, s := range wrong(t) {
		tell := func(what string, c api.Segs, e api.Errno) {
			t.Helper()
			if e != api.ErrArg || !isZero(c) {
				t.Errorf("P14.1: wrong %d: %s: %+v, %d", i, what, c, e)
			}
		}
		if l, e := Read(s); e != api.ErrArg || len(l) != 0 {
			t.Errorf("P14.1: wrong %d: Read: %q, %d", i, l, e)
		}
		for _, l := range [][]string{nil, {""}, {"a", "b"}, {long(1001)}, slices.Repeat([]string{long(9)}, 30)} {
			c, e := Add(s, l...)
			tell("Add", c, e)
		}
		c, e := Sync(s)
		tell("Sync", c, e)
		c, e = Mend(s)
		tell("Mend", c, e)
		for _, n := range counts {
			c, e = Crash(s, n)
			tell("Crash", c, e)
			c, e = Drop(s, n)
			tell("Drop", c, e)
		}
	}
}

// broken are logs of which not all bytes are records', each with the texts that it has, and how many bytes its files have when it is mended.
func broken(t *testing.T) []struct {
	s     api.Segs
	texts []string
	left  []int
} {
	ab, c, de := row(t, 5, "a", "b"), row(t, 7, "c"), row(t, 8, "d", "e")
	a := row(t, 5, "a")
	all := len(ab)
	return []struct {
		s     api.Segs
		texts []string
		left  []int
	}{
		{kept(25, 4, ab, c, de), nil, []int{0}},
		{kept(25, 6, ab, c, de), nil, []int{0}},
		{kept(25, 5, "x"), nil, []int{0}},
		{kept(25, 5, "x", ab, c), nil, []int{0}},
		{kept(25, 5, "x"+ab, c, de), nil, []int{0}},
		{kept(25, 5, a+"x", row(t, 6, "b", "c")), []string{"a"}, []int{len(a)}},
		{kept(25, 5, ab+"x", c, de), []string{"a", "b"}, []int{all}},
		{kept(25, 5, ab[:all-1], c, de), []string{"a"}, []int{len(a)}},
		{kept(25, 5, ab[1:], c, de), nil, []int{0}},
		{kept(25, 5, a+a, c, de), []string{"a"}, []int{len(a)}},
		{kept(25, 5, ab, "x", c), []string{"a", "b"}, []int{all, 0}},
		{kept(25, 5, ab, c+"x", de), []string{"a", "b", "c"}, []int{all, len(c)}},
		{kept(25, 5, ab, c[:len(c)-1], de), []string{"a", "b"}, []int{all, 0}},
		{kept(25, 5, ab, de, c), []string{"a", "b"}, []int{all, 0}},
		{kept(25, 5, ab, ab, c), []string{"a", "b"}, []int{all, 0}},
		{kept(25, 5, ab, "", de), []string{"a", "b"}, []int{all, 0, 0}},
		{kept(25, 5, ab, c, "", "?"), []string{"a", "b", "c"}, []int{all, len(c), 0, 0}},
		{kept(25, 5, ab, c, de[:len(de)-1]), []string{"a", "b", "c", "d"}, []int{all, len(c), len(row(t, 8, "d"))}},
		{kept(25, 5, ab, c, de+"\xff"), []string{"a", "b", "c", "d", "e"}, []int{all, len(c), len(de)}},
	}
}

// whole are logs of which all bytes are records', each with the texts that it has.
func whole(t *testing.T) []struct {
	s     api.Segs
	texts []string
} {
	ab, c, de := row(t, 5, "a", "b"), row(t, 7, "c"), row(t, 8, "d", "e")
	all := kept(25, 5, ab, c, de)
	return []struct {
		s     api.Segs
		texts []string
	}{
		{kept(25, 5, ""), nil},
		{kept(25, 5, "", "", ""), nil},
		{kept(20, 0, slices.Repeat([]string{""}, 20)...), nil},
		{kept(25, 5, ab), []string{"a", "b"}},
		{all, []string{"a", "b", "c", "d", "e"}},
		{loosened(all, 0), []string{"a", "b", "c", "d", "e"}},
		{loosened(all, 5), []string{"a", "b", "c", "d", "e"}},
		{loosened(all, len(row(t, 8, "d"))), []string{"a", "b", "c", "d", "e"}},
		{kept(25, 5, "", ab, "", "", c, de, ""), []string{"a", "b", "c", "d", "e"}},
		{kept(25, 7, c, de), []string{"c", "d", "e"}},
		{laid(t, 4000, 248, []string{"", "\xff"}, []string{long(1000), long(1000), "\x00"}, []string{"é"}), []string{"", "\xff", long(1000), long(1000), "\x00", "é"}},
		{laid(t, 40, lastFirst, []string{"y", "z"}, []string{"w"}), []string{"y", "z", "w"}},
	}
}

func TestRead(t *testing.T) {
	for _, x := range whole(t) {
		isRead(t, "P14.1", x.s, x.texts)
	}
	for _, x := range broken(t) {
		isRead(t, "P14.1", x.s, x.texts)
		last := len(x.s.Files) - 1
		for n := range len(x.s.Files[last].Kept) {
			isRead(t, "P14.1", loosened(x.s, n), x.texts)
		}
	}
}

func TestAdd(t *testing.T) {
	for _, x := range []struct {
		s    api.Segs
		l    []string
		want api.Segs
	}{
		{kept(25, 5, ""), nil, kept(25, 5, "")},
		{kept(25, 5, ""), []string{"a"}, loosened(laid(t, 25, 5, []string{"a"}), 0)},
		{kept(25, 5, ""), []string{"a", "b", "c", "d", "e"}, loosened(laid(t, 25, 5, []string{"a", "b"}, []string{"c", "d"}, []string{"e"}), 0)},
		{kept(25, 5, "", ""), []string{"a", "b", "c"}, loosened(laid(t, 25, 5, nil, []string{"a", "b"}, []string{"c"}), 0)},
		{laid(t, 25, 5, []string{"a", "b"}, nil), []string{"c"}, loosened(laid(t, 25, 5, []string{"a", "b"}, []string{"c"}), 0)},
		{laid(t, 25, 5, []string{"a"}), []string{"b"}, loosened(laid(t, 25, 5, []string{"a", "b"}), len(row(t, 5, "a")))},
		{laid(t, 25, 5, []string{"a"}), []string{"b", "c"}, loosened(laid(t, 25, 5, []string{"a", "b"}, []string{"c"}), 0)},
		{loosened(laid(t, 25, 5, []string{"a"}), 3), []string{"b"}, loosened(laid(t, 25, 5, []string{"a", "b"}), 3)},
		{loosened(laid(t, 25, 5, []string{"a", "b"}), 3), nil, loosened(laid(t, 25, 5, []string{"a", "b"}), 3)},
		{loosened(laid(t, 25, 5, []string{"a", "b"}), 3), []string{"c"}, loosened(laid(t, 25, 5, []string{"a", "b"}, []string{"c"}), 0)},
		{laid(t, 25, 5, []string{"a"}, []string{"b"}), []string{"c", "d"}, loosened(laid(t, 25, 5, []string{"a"}, []string{"b", "c"}, []string{"d"}), 0)},
		{laid(t, 25, 5, []string{"a"}), []string{"long texts", "b", "long texts", ""}, loosened(laid(t, 25, 5, []string{"a"}, []string{"long texts"}, []string{"b"}, []string{"long texts"}, []string{""}), 0)},
		{kept(4000, lastFirst, ""), []string{long(1000), long(999), long(1000), long(1000), "\xff", ""}, loosened(laid(t, 4000, lastFirst, []string{long(1000), long(999), long(1000)}, []string{long(1000), "\xff", ""}), 0)},
	} {
		c, e := Add(x.s, x.l...)
		if e != api.OK || !same(c, x.want) {
			t.Errorf("P14.2: Add(%+v, %.80q): %+v, %d, not %+v", x.s, x.l, c, e, x.want)
		}
	}
}

// A record goes behind what there is as long as it fits to the last byte; one of as many bytes as a file may have is the most that there is.
func TestAddFillsFiles(t *testing.T) {
	r := row(t, 6, "abcdef")
	a := row(t, 5, "a")
	for size := 20; size < 40; size++ {
		want := loosened(kept(size, 5, a+r), len(a))
		if len(a+r) > size {
			want = loosened(kept(size, 5, a, r), 0)
		}
		if c, e := Add(kept(size, 5, a), "abcdef"); e != api.OK || !same(c, want) {
			t.Errorf("P14.2: size %d: %+v, %d", size, c, e)
		}
	}
	for _, n := range []int{0, 5, 250, lastFirst} {
		for k := range 60 {
			text := long(k)
			r := row(t, n, text)
			if len(r) < 20 {
				continue
			}
			if c, e := Add(kept(len(r), n, ""), text); e != api.OK || !same(c, loosened(kept(len(r), n, r), 0)) {
				t.Errorf("P14.2: a record of %d bytes in so many: %+v, %d", len(r), c, e)
			}
			if len(r) == 20 {
				continue
			}
			if c, e := Add(kept(len(r)-1, n, ""), text); e != api.ErrLimit || !isZero(c) {
				t.Errorf("P14.2: a record of %d bytes in one less: %+v, %d", len(r), c, e)
			}
		}
	}
}

func TestAddRefusesLongTexts(t *testing.T) {
	full := kept(20, 0, row(t, 0, "abcd"))
	full = added(t, full, slices.Repeat([]string{"abcd"}, 19)...)
	if len(full.Files) != 20 {
		t.Fatalf("P14.2: %d files", len(full.Files))
	}
	for _, x := range []struct {
		s api.Segs
		l []string
	}{
		{kept(4000, 5, ""), []string{long(1001)}}, {kept(4000, 5, ""), []string{"a", long(1001), "b"}}, {kept(4000, 5, ""), []string{long(1 << 20)}},
		{kept(25, 5, ""), []string{long(1001)}}, {kept(25, 5, ""), []string{long(1000)}}, {kept(25, 5, ""), []string{"a", long(25)}}, {kept(1000, 5, ""), []string{long(1000)}},
		{full, []string{long(1001)}}, {full, []string{long(20)}}, {full, []string{long(20), "abcd"}}, {laid(t, 25, 5, []string{"a", "b"}, []string{"c"}), []string{"d", long(20), "e"}},
	} {
		if c, e := Add(x.s, x.l...); e != api.ErrLimit || !isZero(c) {
			t.Errorf("P14.2: Add(%+v, %d texts): %+v, %d", x.s, len(x.l), c, e)
		}
	}
	if c, e := Add(kept(4000, 5, ""), long(1000)); e != api.OK || !same(c, loosened(laid(t, 4000, 5, []string{long(1000)}), 0)) {
		t.Errorf("P14.2: %d", e)
	}
}

func TestAddRefusesMoreThanTwentyFiles(t *testing.T) {
	l := slices.Repeat([]string{"abcd"}, 20)
	s := kept(20, 0, "")
	for i := range l {
		c, e := Add(s, l[:i+1]...)
		if e != api.OK || len(c.Files) != i+1 {
			t.Errorf("P14.2: %d texts: %d files, %d", i+1, len(c.Files), e)
		}
	}
	full := added(t, s, l...)
	isRead(t, "P14.2", full, l)
	refuses := func(s api.Segs, l ...string) {
		t.Helper()
		if c, e := Add(s, l...); e != api.ErrFull || !isZero(c) {
			t.Errorf("P14.2: Add of %d texts: %+v, %d", len(l), c, e)
		}
	}
	refuses(full, "abcd")
	refuses(full, "")
	refuses(full, "abcd", long(1001))
	refuses(s, append(slices.Clone(l), "abcd")...)
	refuses(s, append(slices.Clone(l), "abcd", long(1001))...)
	refuses(s, slices.Repeat([]string{"abcd"}, 1<<20)...)
	refuses(s, make([]string, 1<<20)...)
	if c, e := Add(full); e != api.OK || !same(c, full) {
		t.Errorf("P14.2: Add of none to 20 full files: %+v, %d", c, e)
	}
	room := laid(t, 25, 0, append(slices.Repeat([][]string{nil}, 19), []string{"a"})...)
	if c, e := Add(room, "b"); e != api.OK || !same(c, loosened(laid(t, 25, 0, append(slices.Repeat([][]string{nil}, 19), []string{"a", "b"})...), len(row(t, 0, "a")))) {
		t.Errorf("P14.2: Add where the 20th has room: %+v, %d", c, e)
	}
	refuses(room, "b", "c")
}

func TestAddRefusesBrokenLogs(t *testing.T) {
	for i, x := range broken(t) {
		for _, s := range []api.Segs{x.s, loosened(x.s, 0)} {
			for _, l := range [][]string{nil, {""}, {"a"}, {long(1001)}, slices.Repeat([]string{"ab"}, 100)} {
				if c, e := Add(s, l...); e != api.ErrArg || !isZero(c) {
					t.Errorf("P14.2: %d: Add of %d texts: %+v, %d", i, len(l), c, e)
				}
			}
		}
	}
}

func TestSyncAndCrash(t *testing.T) {
	for i, s := range right(t) {
		last := len(s.Files) - 1
		f := s.Files[last]
		want := func(kept string) api.Segs {
			c := s
			c.Files = slices.Clone(s.Files)
			c.Files[last] = api.File{Most: s.Size, Kept: kept}
			return c
		}
		if c, e := Sync(s); e != api.OK || !same(c, want(f.Kept+f.Loose)) {
			t.Errorf("P14.2: %d: Sync: %+v, %d", i, c, e)
		}
		for _, n := range append([]int{len(f.Loose) - 1, len(f.Loose), len(f.Loose) + 1}, counts...) {
			stays := max(0, min(n, len(f.Loose)))
			if c, e := Crash(s, n); e != api.OK || !same(c, want(f.Kept+f.Loose[:stays])) {
				t.Errorf("P14.2: %d: Crash %d: %+v, %d", i, n, c, e)
			}
		}
	}
}

func TestMend(t *testing.T) {
	for i, x := range broken(t) {
		last := len(x.s.Files) - 1
		for n := range len(x.s.Files[last].Kept) + 1 {
			s := loosened(x.s, n)
			want := api.Segs{Size: s.Size, First: s.First}
			for k, n := range x.left {
				want.Files = append(want.Files, api.File{Most: s.Size, Kept: file.Read(s.Files[k])[:n]})
			}
			m, e := Mend(s)
			if e != api.OK || !same(m, want) {
				t.Errorf("P14.3: %d: Mend(%+v): %+v, %d, not %+v", i, s, m, e, want)
				continue
			}
			isRead(t, "P14.3", m, x.texts)
			isRead(t, "P14.3", added(t, m, "more", "still"), append(slices.Clone(x.texts), "more", "still"))
		}
	}
}

// Where there is nothing to mend, nothing is cut: what is loose stays so.
func TestMendOfWholeLogs(t *testing.T) {
	for _, x := range whole(t) {
		if m, e := Mend(x.s); e != api.OK || !same(m, x.s) {
			t.Errorf("P14.3: Mend(%+v): %+v, %d", x.s, m, e)
		}
	}
}

func TestDrop(t *testing.T) {
	ab, c, de := row(t, 5, "a", "b"), row(t, 7, "c"), row(t, 8, "d", "e")
	all := loosened(kept(25, 5, ab, c, de), 4)
	end := laid(t, 40, lastFirst-2, []string{"v", "w"}, []string{"x", "y"}, []string{"z"})
	over := laid(t, 40, lastFirst-3, []string{"v", "w"}, []string{"x", "y"}, []string{"z"})
	for _, x := range []struct {
		s                 api.Segs
		upto, first, gone int
	}{
		{all, 4, 5, 0}, {all, 5, 5, 0}, {all, 6, 5, 0}, {all, 7, 7, 1}, {all, 8, 8, 2}, {all, 9, 8, 2}, {all, 10, 8, 2}, {all, 99, 8, 2},
		{all, 0, 5, 0}, {all, -1, 5, 0}, {all, math.MinInt, 5, 0}, {all, -1<<32 + 8, 5, 0}, {all, math.MaxInt, 8, 2}, {all, 1 << 32, 8, 2},
		{kept(25, 5, ab), 99, 5, 0}, {kept(25, 5, ""), 99, 5, 0}, {loosened(kept(25, 5, ab), 0), 7, 5, 0},
		{kept(25, 5, ab, ""), 6, 5, 0}, {kept(25, 5, ab, ""), 7, 7, 1}, {kept(25, 5, ab, "", ""), 7, 7, 2}, {kept(25, 5, ab, "", c), 7, 7, 2}, {kept(25, 5, ab, "", c), 8, 7, 2},
		{kept(25, 5, "", ab, c), 4, 5, 0}, {kept(25, 5, "", ab, c), 5, 5, 1}, {kept(25, 5, "", ab, c), 6, 5, 1}, {kept(25, 5, "", ab, c), 7, 7, 2}, {kept(25, 0, "", ""), -1, 0, 0}, {kept(25, 0, "", ""), 0, 0, 1},
		{kept(25, 5, ab+"x", c, de), 99, 5, 0}, {kept(25, 5, "x", ab), 99, 5, 0}, {kept(25, 4, ab, c, de), 99, 4, 0}, {kept(25, 5, "x", c), 5, 5, 0},
		{kept(25, 5, ab, c+"x", de), 99, 7, 1}, {kept(25, 5, ab, "x", de), 99, 7, 1}, {kept(25, 5, ab, de, c), 99, 7, 1}, {kept(25, 5, ab, c, "x"), 99, 8, 2},
		{end, lastFirst - 1, lastFirst - 2, 0}, {end, lastFirst, lastFirst, 1}, {end, lastFirst + 2, lastFirst, 1}, {end, math.MaxInt, lastFirst, 1},
		{over, lastFirst - 1, lastFirst - 1, 1}, {over, lastFirst + 1, lastFirst - 1, 1}, {over, math.MaxInt, lastFirst - 1, 1},
		{laid(t, 40, lastFirst, []string{"v"}, []string{"w"}), math.MaxInt, lastFirst, 0}, {kept(40, lastFirst, "", ""), math.MaxInt, lastFirst, 1},
	} {
		want := api.Segs{Size: x.s.Size, First: x.first, Files: x.s.Files[x.gone:]}
		if d, e := Drop(x.s, x.upto); e != api.OK || !same(d, want) {
			t.Errorf("P14.3: Drop(%+v, %d): %+v, %d, not %+v", x.s, x.upto, d, e, want)
		}
	}
}

// Whatever becomes of a log, the one that was handed in stays as it was, and what comes out is in memory of its own.
func TestNothingIsShared(t *testing.T) {
	for what, call := range map[string]func(api.Segs) (api.Segs, api.Errno){
		"Add":         func(s api.Segs) (api.Segs, api.Errno) { return Add(s, "f") },
		"Add of more": func(s api.Segs) (api.Segs, api.Errno) { return Add(s, "f", "g", "h", "long texts") },
		"Add of none": func(s api.Segs) (api.Segs, api.Errno) { return Add(s) },
		"Sync":        Sync,
		"Crash":       func(s api.Segs) (api.Segs, api.Errno) { return Crash(s, 4) },
		"Mend":        Mend,
		"Drop":        func(s api.Segs) (api.Segs, api.Errno) { return Drop(s, 7) },
		"Drop none":   func(s api.Segs) (api.Segs, api.Errno) { return Drop(s, 0) },
	} {
		made := loosened(laid(t, 25, 5, []string{"a", "b"}, []string{"c", "d"}, []string{"e"}), 0)
		s := made
		s.Files = append(make([]api.File, 0, 9), made.Files...)
		behind := s.Files[:9]
		c, e := call(s)
		again, f := call(s)
		if e != api.OK || f != api.OK || !same(c, again) || !same(s, made) || slices.ContainsFunc(behind[3:], func(f api.File) bool { return f != api.File{} }) {
			t.Errorf("R2: %s turned what was handed in, or tells it in two ways: %+v", what, s)
		}
		for i := range c.Files {
			c.Files[i] = api.File{Most: 1}
		}
		c.Files = append(c.Files, api.File{Most: 2})
		if !same(s, made) || slices.ContainsFunc(again.Files, func(f api.File) bool { return f.Most != 25 }) {
			t.Errorf("R2: %s shares its files", what)
		}
	}
	s := laid(t, 25, 5, []string{"a", "b"}, []string{"c"})
	l, _ := Read(s)
	l[0] = "x"
	isRead(t, "R2", s, []string{"a", "b", "c"})
	texts := []string{"d", "e", "f"}
	c := added(t, s, texts[:2]...)
	if !slices.Equal(texts, []string{"d", "e", "f"}) {
		t.Errorf("R2: %q", texts)
	}
	texts[0] = "x"
	isRead(t, "R2", c, []string{"a", "b", "c", "d", "e"})
}

// A log of some synced and some loose records is cut by a crash at each of its bytes, mended, and goes on.
func TestCrashAndMend(t *testing.T) {
	texts := []string{"one", "", "two\xff", "three", "\x01\xff\x00", "six", "7"}
	for size := 20; size < 90; size++ {
		for synced := range len(texts) + 1 {
			s, _ := New(size, 247)
			s, _ = Sync(added(t, s, texts[:synced]...))
			s = added(t, s, texts[synced:]...)
			last := s.Files[len(s.Files)-1]
			for n := range len(last.Loose) + 1 {
				c, _ := Crash(s, n)
				m, e := Mend(c)
				l, f := Read(m)
				if e != api.OK || f != api.OK || len(l) < synced || len(l) > len(texts) || !slices.Equal(l, texts[:len(l)]) {
					t.Fatalf("P14.4: size %d, %d synced, Crash %d, Mend: %+v, %d: %q", size, synced, n, m, e, l)
				}
				if n == len(last.Loose) && len(l) < len(texts) {
					t.Errorf("P14.4: size %d, %d synced: nothing was lost, but %q", size, synced, l)
				}
				isRead(t, "P14.4", added(t, m, "more", "still"), append(slices.Clone(l), "more", "still"))
			}
		}
	}
}

// byHand is what a log has: rows of texts, each in a file of its own; of the last one so many bytes are kept.
type byHand struct {
	size, first int
	rows        [][]string
	kept        int
}

func (h byHand) texts() []string { return slices.Concat(h.rows...) }

func (h byHand) log(t *testing.T) api.Segs {
	t.Helper()
	return loosened(laid(t, h.size, h.first, h.rows...), h.kept)
}

// lastRow are the records of the last row's first ones.
func (h byHand) lastRow(t *testing.T, many int) string {
	last := len(h.rows) - 1
	return row(t, h.first+len(slices.Concat(h.rows[:last]...)), h.rows[last][:many]...)
}

func (h byHand) add(t *testing.T, l ...string) (byHand, api.Errno) {
	h.rows = slices.Clone(h.rows)
	for _, s := range l {
		last := len(h.rows) - 1
		r := row(t, h.first+len(h.texts()), s)
		switch {
		case len(r) > h.size:
			return byHand{}, api.ErrLimit
		case len(h.lastRow(t, len(h.rows[last])))+len(r) <= h.size:
			h.rows[last] = append(slices.Clone(h.rows[last]), s)
		case len(h.rows) == 20:
			return byHand{}, api.ErrFull
		default:
			h.rows = append(h.rows, []string{s})
			h.kept = 0
		}
	}
	return h, api.OK
}

func (h byHand) sync(t *testing.T) byHand {
	h.kept = len(h.lastRow(t, len(h.rows[len(h.rows)-1])))
	return h
}

// crash keeps the records of the last row that have no byte behind the first n loose ones.
func (h byHand) crash(t *testing.T, n int) byHand {
	last := len(h.rows) - 1
	many := len(h.rows[last])
	for len(h.lastRow(t, many)) > h.kept+n {
		many--
	}
	h.rows = append(slices.Clone(h.rows[:last]), h.rows[last][:many])
	return h.sync(t)
}

func (h byHand) drop(upto int) byHand {
	for len(h.rows) > 1 && h.first+len(h.rows[0]) <= upto {
		h.first += len(h.rows[0])
		h.rows = h.rows[1:]
	}
	return h
}

func someTexts(r *rand.Rand) []string {
	l := make([]string, r.Intn(5))
	for i := range l {
		b := make([]byte, r.Intn(16))
		for k := range b {
			b[k] = byte(r.Intn(256)) | byte(r.Intn(2)*254)
		}
		l[i] = string(b)
	}
	return l
}

// step does one thing to the log and by hand; it tells what both have become.
func step(t *testing.T, r *rand.Rand, s api.Segs, h byHand) (api.Segs, byHand) {
	t.Helper()
	var c api.Segs
	var e, want api.Errno
	switch r.Intn(9) {
	case 0, 1, 2, 3, 4:
		l := someTexts(r)
		turned, f := h.add(t, l...)
		want = f
		c, e = Add(s, l...)
		if f == api.OK {
			h = turned
		}
	case 5:
		c, e = Sync(s)
		h = h.sync(t)
	case 6:
		n := r.Intn(len(s.Files[len(s.Files)-1].Loose) + 1)
		h = h.crash(t, n)
		c, _ = Crash(s, n)
		c, e = Mend(c)
		if e == api.OK && file.Read(c.Files[len(c.Files)-1]) != c.Files[len(c.Files)-1].Kept {
			t.Fatalf("P14.2: loose behind a crash: %+v", c)
		}
	case 7:
		c, e = Mend(s)
	case 8:
		upto := h.first + r.Intn(len(h.texts())+3) - 1
		h = h.drop(upto)
		c, e = Drop(s, upto)
		if e == api.OK && c.First > max(upto, s.First) {
			t.Fatalf("P14.4: Drop up to %d of %d: %d", upto, s.First, c.First)
		}
	}
	if e != want || e != api.OK && !isZero(c) {
		t.Fatalf("P14.2: %+v: %+v, %d, not %d", s, c, e, want)
	}
	if e != api.OK {
		return s, h
	}
	return c, h
}

func TestAgainstRowsByHand(t *testing.T) {
	r := rand.New(rand.NewSource(14))
	for range 300 {
		h := byHand{size: 20 + r.Intn(60), first: r.Intn(600), rows: [][]string{nil}}
		s, _ := New(h.size, h.first)
		for range 60 {
			s, h = step(t, r, s, h)
			if !same(s, h.log(t)) {
				t.Fatalf("P14.4: %+v, not %+v", s, h.log(t))
			}
			isRead(t, "P14.4", s, h.texts())
		}
	}
}

func FuzzFiles(f *testing.F) {
	f.Add("a\x00b", "c", "d", 5, 7, 3)
	f.Add("", "", "", 0, 0, 0)
	f.Add("\x01\xff\x04\xff\x05\xff", "ab", "\x8d\x8b\xff", 5, 6, 1)
	f.Add("\x01\xff\x04\xff\x05\xffab\x8d\x8b\xff", "\x01\xff\x02\xff\x06\xff~\x8a\xff", "", 5, 6, 1)
	f.Add("\x01\xff\x04\xff\x05\xffab\x8d\x8b\xff", "\x01\xff\x02\xff\x06\xff~\x8a\xff", "\x01\xff\x04\xff\x07\xff\x07\xffW\x9a\xff", 5, 7, 9)
	f.Fuzz(func(t *testing.T, a, b, c string, first, upto, n int) {
		s := kept(200, first, a, b, c)
		if n >= 0 && n < len(c) {
			s = loosened(s, n)
		}
		l, e := Read(s)
		m, g := Mend(s)
		d, h := Drop(s, upto)
		if !Is(s) {
			if e != api.ErrArg || g != e || h != e {
				t.Fatalf("P14.1: %+v: %d, %d, %d", s, e, g, h)
			}
			return
		}
		if e != api.OK || g != api.OK || h != api.OK {
			t.Fatalf("P14.1: %+v: %d, %d, %d", s, e, g, h)
		}
		isRead(t, "P14.3", m, l)
		if d.First < s.First || d.First > max(upto, s.First) || d.First-s.First > len(l) {
			t.Fatalf("P14.4: Drop(%+v, %d): %+v", s, upto, d)
		}
		isRead(t, "P14.4", d, l[d.First-s.First:])
		isRead(t, "P14.4", added(t, m, "more"), append(slices.Clone(l), "more"))
	})
}
