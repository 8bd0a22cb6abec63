package snap

import (
	"math"
	"math/rand"
	"slices"
	"strings"
	"testing"

	"watchman/api"
	"watchman/file"
	"watchman/frame"
	"watchman/wire"
)

const last = 1000000000

func long(n int) string { return strings.Repeat("x", n) }

// drawn are numbers, texts and their pictures, worked out by another program.
var drawn = []struct {
	n int
	l []string
	s string
}{
	{0, []string{}, "\x03\xff\x05\xff\x01\xff\x01\xff\xffbI\xff"},
	{0, []string{""}, "\x03\xff\x06\xff\x02\xff\x01\xff\xff\xff\xa0\x8f\xff"},
	{5, []string{"a"}, "\x03\xff\x09\xff\x02\xff\x02\xff\x05\xff\x01\xffa\xa4\x8e\xff"},
	{6, []string{"b"}, "\x03\xff\x09\xff\x02\xff\x02\xff\x06\xff\x01\xffb\xebW\xff"},
	{5, []string{"a", ""}, "\x03\xff\x0a\xff\x03\xff\x02\xff\x05\xff\x01\xffa\xff\xe1\x04\xff"},
	{7, []string{"\x07\xff"}, "\x03\xff\x0a\xff\x02\xff\x02\xff\x07\xff\x02\xff\x07\xff\xd6\xdf\xff"},
	{249, []string{"bed 12", "12/3 raised 1 5 15", ""}, "\x03\xff#\xff\x04\xff\x02\xff\xf9\xff\x06\xffbed 12\x12\xff12/3 raised 1 5 15\xff\xec\x8d\xff"},
	{250, []string{"\xff\x00\xfe"}, "\x03\xff\x0c\xff\x02\xff\x03\xff\x00\x01\xff\x03\xff\xff\x00\xfe\x16|\xff"},
	{62500, []string{"\xc3\xa9", "\""}, "\x03\xff\x0f\xff\x03\xff\x04\xff\x00\x00\x01\xff\x02\xff\xc3\xa9\x01\xff\"hq\xff"},
	{last - 1, []string{"", "", ""}, "\x03\xff\x0c\xff\x04\xff\x05\xff\xf9\xf9\xf9?\xff\xff\xff\xff\"\xb5\xff"},
	{last, []string{"z"}, "\x03\xff\x0c\xff\x02\xff\x05\xff\x00\x00\x00@\xff\x01\xffz\x8d4\xff"},
	{8, []string{long(300)}, "\x03\xff;\x01\xff\x02\xff\x02\xff\x08\xff2\x01\xff" + long(300) + "\x04\xe2\xff"},
	{last, []string{long(2988)}, "\x03\xff\x00\x0c\xff\x02\xff\x05\xff\x00\x00\x00@\xff\xee\x0b\xff" + long(2988) + "\x88d\xff"},
	{3, make([]string, 99), "\x03\xffi\xffd\xff\x02\xff\x03" + strings.Repeat("\xff", 99) + "\xff\x0a\x84\xff"},
}

// row is a frame of any kind and texts.
func row(t *testing.T, kind int, l ...string) string {
	t.Helper()
	b, e := frame.Row(kind, l...)
	if e != api.OK {
		t.Fatal(e)
	}
	return b
}

// draw is what would be the picture of any number.
func draw(t *testing.T, n int, l ...string) string {
	t.Helper()
	b, e := wire.Int(n)
	if e != api.OK {
		t.Fatal(e)
	}
	return row(t, 3, append([]string{b}, l...)...)
}

// kept is a shelf of two files whose bytes are all kept.
func kept(most int, main, temp string) api.Shelf {
	return api.Shelf{Main: api.File{Most: most, Kept: main}, Temp: api.File{Most: most, Kept: temp}}
}

// parted is a file of s: all of it kept, a half of it, or none.
func parted(most int, s string, part int) api.File {
	at := len(s) * part / 2
	return api.File{Most: most, Kept: s[:len(s)-at], Loose: s[len(s)-at:]}
}

func loads(t *testing.T, promise string, s api.Shelf, n int, l []string) {
	t.Helper()
	if m, k, ok, e := Load(s); e != api.OK || !ok || m != n || !slices.Equal(k, l) {
		t.Errorf("%s: Load(%+v): %d, %.60q, %t, %d, not %d, %.60q", promise, s, m, k, ok, e, n, l)
	}
}

func loadsNone(t *testing.T, promise string, s api.Shelf) {
	t.Helper()
	if n, l, ok, e := Load(s); e != api.OK || ok || n != 0 || len(l) != 0 {
		t.Errorf("%s: Load(%+v): %d, %.60q, %t, %d", promise, s, n, l, ok, e)
	}
}

func made(t *testing.T, most int) api.Shelf {
	t.Helper()
	s, e := New(most)
	if e != api.OK {
		t.Fatalf("P16.1: New(%d): %d", most, e)
	}
	return s
}

func saved(t *testing.T, s api.Shelf, n int, l ...string) api.Shelf {
	t.Helper()
	x, done, e := Save(s, n, l, -1)
	if e != api.OK || !done {
		t.Fatalf("P16.2: Save(%+v, %d, %.60q): %t, %d", s, n, l, done, e)
	}
	return x
}

func crashed(t *testing.T, s api.Shelf, n int) api.Shelf {
	t.Helper()
	x, e := Crash(s, n)
	if e != api.OK || x.Main.Loose+x.Temp.Loose != "" {
		t.Fatalf("P16.2: Crash(%+v, %d): %+v, %d", s, n, x, e)
	}
	return x
}

func TestExample(t *testing.T) {
	s := made(t, 80)
	loadsNone(t, "P16.1", s)
	s = saved(t, s, 5, "a")
	loads(t, "P16.3", s, 5, []string{"a"})
	x, done, e := Save(s, 6, []string{"b"}, 2)
	if e != api.OK || done {
		t.Fatalf("P16.2: %t, %d", done, e)
	}
	loads(t, "P16.3", x, 5, []string{"a"})
}

func TestNew(t *testing.T) {
	for _, most := range []int{1, 2, 80, 255, 256, 3999, 4000} {
		if s, e := New(most); e != api.OK || s != kept(most, "", "") {
			t.Errorf("P16.1: New(%d): %+v, %d", most, s, e)
		}
	}
	for _, most := range []int{0, -1, -80, 4001, 1 << 16, 1<<16 + 80, 1 << 31, 1 << 32, 1<<32 + 80, -1<<32 + 80, math.MaxInt, math.MinInt} {
		if s, e := New(most); e != api.ErrArg || s != (api.Shelf{}) {
			t.Errorf("P16.1: New(%d): %+v, %d", most, s, e)
		}
	}
}

// Wherever Main's bytes are parted into kept and loose ones, and whatever Temp has: it is loaded alike.
func TestLoad(t *testing.T) {
	other := draw(t, 9, "another one")
	for _, x := range drawn {
		for _, temp := range []string{"", "x", other} {
			for at := 0; at <= len(x.s); at += 1 + len(x.s)/40 {
				main := api.File{Most: 4000, Kept: x.s[:at], Loose: x.s[at:]}
				loads(t, "P16.1", api.Shelf{Main: main, Temp: api.File{Most: 4000, Kept: temp}}, x.n, x.l)
				loads(t, "P16.1", api.Shelf{Main: main, Temp: api.File{Most: 4000, Loose: temp}}, x.n, x.l)
			}
		}
		loads(t, "P16.1", kept(len(x.s), x.s, ""), x.n, x.l)
	}
}

// notPictures look like pictures, but are none.
func notPictures(t *testing.T) []string {
	p := draw(t, 7, "a")
	l := []string{
		"", "\x00", "\xff", p + "x", p + "\x00", p + p, "x" + p, p[:len(p)-1], p[1:],
		draw(t, -1, "a"), draw(t, -1), draw(t, -7, ""), draw(t, -last, "a"), draw(t, last+1, "a"), draw(t, last+1), draw(t, math.MaxInt32, "a"), draw(t, -math.MaxInt32),
		row(t, 3), row(t, 3, ""), row(t, 3, "a"), row(t, 3, "a", "\x07\xff"), row(t, 3, "\x07"), row(t, 3, "\x07\xffx"), row(t, 3, "\x07\xff\xff", "a"), row(t, 3, "\x07\x00\xff"), row(t, 3, "\x07\xfa\xff"), row(t, 3, "\xfe"), row(t, 3, "\x00\xff"), row(t, 3, "\x07\xfe"),
		"\x03\xff\x09\xff\x02\xff\x02\xff\x05\xff\x01\xffa\xa5\x8e\xff", "\x03\xff\x09\xff\x02\xff\x02\xff\x06\xff\x01\xffa\xa4\x8e\xff",
	}
	for _, kind := range []int{0, 1, 2, 4, 98, 99} {
		l = append(l, row(t, kind, "\x07\xff", "a"), row(t, kind, "\xff"))
	}
	// A frame's text that is no row.
	for _, text := range []string{"", "\x07\xff", "\x07\xffa", "\x02\xff\x02\xff\x07\xff", "\x01\xff\x02\xff\x07\xffx"} {
		b, e := frame.Put(3, text)
		if e != api.OK {
			t.Fatal(e)
		}
		l = append(l, b)
	}
	return l
}

func TestLoadOfNoPictures(t *testing.T) {
	p := draw(t, 7, "a")
	for _, x := range notPictures(t) {
		for part := range 3 {
			loadsNone(t, "P16.1", api.Shelf{Main: parted(80, x, part), Temp: api.File{Most: 80}})
			loadsNone(t, "P16.1", api.Shelf{Main: parted(80, x, part), Temp: parted(80, p, part)})
		}
	}
}

// Whichever of a picture's bytes is cut off, lost or turned: it is none.
func TestLoadOfWhatIsBroken(t *testing.T) {
	p, other := draw(t, 250, "new", ""), draw(t, 249, "old")
	check := func(broken string) {
		t.Helper()
		loadsNone(t, "P16.1", kept(80, broken, ""))
		loadsNone(t, "P16.1", kept(80, broken, other))
	}
	for i := range len(p) {
		check(p[:i])
		check(p[:i] + p[i+1:])
		for x := range 256 {
			if p[i] != byte(x) {
				check(p[:i] + string([]byte{byte(x)}) + p[i+1:])
			}
		}
	}
}

// counts are numbers of deeds, and of bytes: some would be others, were they cut to fewer bits.
var counts = []int{-1, -2, -3, 0, 1, 2, 3, 4, 5, 255, 256, 257, 1 << 16, 1<<16 + 1, 1 << 31, 1 << 32, 1<<32 + 1, 1<<32 + 2, -1 << 32, -1<<32 + 1, math.MaxInt, math.MaxInt - 1, math.MinInt, math.MinInt + 1}

// noNumbers are none of a picture: some would be, were they cut to fewer bits.
var noNumbers = []int{-1, -2, -last, last + 1, last + 2, math.MaxInt32, math.MinInt32, 1 << 31, 1 << 32, 1<<32 + 5, -1<<32 + 5, 1<<33 + last, math.MaxInt, math.MinInt}

// wrong are shelves that are not right: a file of theirs is not, or they are not made for as many bytes.
func wrong(t *testing.T) []api.Shelf {
	p := draw(t, 7, "a")
	good := api.File{Most: 80, Kept: p}
	l := []api.Shelf{
		{}, {Main: good}, {Temp: good},
		{Main: good, Temp: api.File{Most: 81}}, {Main: good, Temp: api.File{Most: 79, Kept: p}}, {Main: api.File{Most: 81}, Temp: good}, {Main: api.File{Most: 4000}, Temp: api.File{Most: 1}},
	}
	for _, most := range []int{0, -1, -80, 4001, 1<<16 + 80, 1<<32 + 80, -1<<32 + 80, math.MaxInt, math.MinInt} {
		bad := api.File{Most: most, Kept: p}
		l = append(l, api.Shelf{Main: bad, Temp: bad}, api.Shelf{Main: good, Temp: bad}, api.Shelf{Main: bad, Temp: good}, api.Shelf{Main: api.File{Most: most}, Temp: api.File{Most: most}})
	}
	for _, bad := range []api.File{{Most: len(p) - 1, Kept: p}, {Most: len(p) - 1, Loose: p}, {Most: len(p), Kept: p, Loose: "x"}, {Most: len(p), Kept: "x", Loose: p}, {Most: 4000, Kept: p, Loose: long(4000)}} {
		empty := api.File{Most: bad.Most}
		l = append(l, api.Shelf{Main: bad, Temp: bad}, api.Shelf{Main: bad, Temp: empty}, api.Shelf{Main: empty, Temp: bad})
	}
	return l
}

func refuses(t *testing.T, s api.Shelf, n int, l []string, want api.Errno) {
	t.Helper()
	for _, deeds := range counts {
		if x, done, e := Save(s, n, l, deeds); e != want || x != (api.Shelf{}) || done {
			t.Errorf("P16.2: Save(%+v, %d, %d texts, %d): %+v, %t, %d, not %d", s, n, len(l), deeds, x, done, e, want)
		}
	}
}

func TestWrongShelves(t *testing.T) {
	for i, s := range wrong(t) {
		if n, l, ok, e := Load(s); e != api.ErrArg || n != 0 || len(l) != 0 || ok {
			t.Errorf("P16.1: %d: Load: %d, %q, %t, %d", i, n, l, ok, e)
		}
		for _, l := range [][]string{nil, {"a"}, {long(3001)}, make([]string, 100), {long(2980)}} {
			refuses(t, s, 5, l, api.ErrArg)
			refuses(t, s, -1, l, api.ErrArg)
		}
		for _, n := range counts {
			if x, e := Crash(s, n); e != api.ErrArg || x != (api.Shelf{}) {
				t.Errorf("P16.2: %d: Crash %d: %+v, %d", i, n, x, e)
			}
		}
	}
}

func TestSave(t *testing.T) {
	p := draw(t, 5, "five")
	for _, main := range []string{"", p, "x", p + "x", strings.Repeat("m", 4000)} {
		for _, temp := range []string{"", p, "left over", strings.Repeat("t", 4000)} {
			for _, x := range drawn {
				// All bytes are kept, all are loose, and some are this, some that.
				for part := range 3 {
					s := api.Shelf{Main: parted(4000, main, part), Temp: parted(4000, temp, part)}
					for _, deeds := range counts {
						savesAs(t, s, x.n, x.l, deeds, x.s)
					}
				}
			}
		}
	}
}

func savesAs(t *testing.T, s api.Shelf, n int, l []string, deeds int, picture string) {
	t.Helper()
	most, done := s.Main.Most, deeds < 0 || deeds >= 3
	want := s
	switch {
	case done:
		want = kept(most, picture, "")
	case deeds == 2:
		want.Temp = api.File{Most: most, Kept: picture}
	case deeds == 1:
		want.Temp = api.File{Most: most, Loose: picture}
	}
	if got, d, e := Save(s, n, l, deeds); e != api.OK || got != want || d != done {
		t.Errorf("P16.2: Save(%+v, %d, %.60q, %d): %+v, %t, %d, not %+v", s, n, l, deeds, got, d, e, want)
	}
}

func TestSaveOfNoNumber(t *testing.T) {
	for _, n := range noNumbers {
		for _, l := range [][]string{nil, {"a"}, {long(3001)}, make([]string, 100), {long(2980)}} {
			refuses(t, kept(4000, "", ""), n, l, api.ErrArg)
			refuses(t, kept(5, "", "x"), n, l, api.ErrArg)
		}
	}
}

// A row of more than 100 texts, the number's among them, or of a text or a whole of more than 3000 bytes is none, however much a file may have.
func TestSaveOfTooMuch(t *testing.T) {
	for _, l := range [][]string{
		make([]string, 100), make([]string, 101), make([]string, 255), make([]string, 1<<16), {long(3001)}, {"a", long(3001)}, {long(1 << 16)}, {long(1<<16 + 1)},
		{long(2993)}, {long(3000)}, {long(1500), long(1500)}, {long(2987), "", "", "", "", "", ""}, slices.Repeat([]string{long(30)}, 99),
	} {
		for _, most := range []int{1, 80, 3008, 4000} {
			refuses(t, kept(most, "", ""), 0, l, api.ErrLimit)
			refuses(t, kept(most, "x", ""), last, l, api.ErrLimit)
		}
	}
	refuses(t, kept(4000, "", ""), 250, []string{long(2991)}, api.ErrLimit)
	refuses(t, kept(4000, "", ""), last, []string{long(2989)}, api.ErrLimit)
	for n, size := range map[int]int{0: 2992, 249: 2991, 250: 2990, last: 2988} {
		l := []string{long(size)}
		loads(t, "P16.3", saved(t, kept(4000, "", ""), n, l...), n, l)
	}
}

// A picture is told to be too much by its own bytes alone, whatever the files have ahead.
func TestSaveFillsAFile(t *testing.T) {
	for _, x := range drawn {
		for most := len(x.s) - 2; most <= len(x.s)+2; most++ {
			for _, ahead := range []string{"", "y", strings.Repeat("y", most)} {
				s := kept(most, ahead, ahead)
				if len(x.s) > most {
					refuses(t, s, x.n, x.l, api.ErrFull)
					continue
				}
				for _, deeds := range counts {
					savesAs(t, s, x.n, x.l, deeds, x.s)
				}
			}
		}
	}
	for _, most := range []int{1, 2, 11} {
		refuses(t, kept(most, "", ""), 0, nil, api.ErrFull)
	}
}

func TestCrash(t *testing.T) {
	files := []api.File{{Most: 80}, {Most: 80, Kept: "ab"}, {Most: 80, Loose: "cde"}, {Most: 80, Kept: "ab", Loose: "cdef"}, {Most: 80, Loose: draw(t, 5, "a")}}
	for _, a := range files {
		for _, b := range files {
			for _, n := range append([]int{6, 7, 8, 16, 17, 18}, counts...) {
				wa, _ := file.Crash(a, n)
				wb, _ := file.Crash(b, n)
				if x, e := Crash(api.Shelf{Main: a, Temp: b}, n); e != api.OK || x != (api.Shelf{Main: wa, Temp: wb}) {
					t.Errorf("P16.2: Crash(%+v, %+v, %d): %+v, %d", a, b, n, x, e)
				}
			}
		}
	}
}

func TestWhatIsSavedIsLoaded(t *testing.T) {
	s := made(t, 4000)
	for _, x := range drawn {
		s = saved(t, s, x.n, x.l...)
		loads(t, "P16.3", s, x.n, x.l)
		if s.Main.Kept != x.s {
			t.Errorf("P16.2: %d: %.60q", x.n, s.Main.Kept)
		}
		loads(t, "P16.3", crashed(t, s, 0), x.n, x.l)
	}
	for n := range 300 {
		s = saved(t, s, 300-n, "again", string([]byte{byte(n)}))
		loads(t, "P16.3", s, 300-n, []string{"again", string([]byte{byte(n)})})
	}
}

// A save is stopped at each deed, and a crash leaves each number of bytes: Main is what it was, or the picture, whole; and it goes on.
func TestSaveAndCrash(t *testing.T) {
	p := draw(t, 6, "new", "")
	for _, s := range []api.Shelf{made(t, 80), kept(80, "no picture", "left over"), kept(80, draw(t, 5, "old"), ""), kept(80, draw(t, 5, "old"), draw(t, 4, "older"))} {
		for deeds := range 5 {
			x, done, e := Save(s, 6, []string{"new", ""}, deeds)
			if e != api.OK || done != (deeds >= 3) {
				t.Fatalf("P16.2: %d: %t, %d", deeds, done, e)
			}
			for n := -1; n <= len(p)+1; n++ {
				y := crashed(t, x, n)
				want := s.Main
				if done {
					want = api.File{Most: 80, Kept: p}
				}
				if y.Main != want {
					t.Errorf("P16.3: %d deeds of %+v, and a crash with %d: %+v", deeds, s, n, y)
				}
				z := saved(t, y, 7, "more")
				if z != kept(80, draw(t, 7, "more"), "") {
					t.Errorf("P16.3: %+v", z)
				}
			}
		}
	}
}

// byHand is what a shelf tells.
type byHand struct {
	ok bool
	n  int
	l  []string
}

func (h byHand) isTold(t *testing.T, s api.Shelf) {
	t.Helper()
	if h.ok {
		loads(t, "P16.3", s, h.n, h.l)
		return
	}
	loadsNone(t, "P16.3", s)
}

func someTexts(r *rand.Rand) []string {
	l := make([]string, r.Intn(4))
	for i := range l {
		l[i] = string([]byte{byte(r.Intn(256)), byte(255 - r.Intn(9)), byte(r.Intn(256))}[:r.Intn(4)])
	}
	return l
}

// byteCount is how many bytes texts take, each with how long it is ahead.
func byteCount(texts ...string) int {
	sum := 0
	for _, s := range texts {
		sum += 1 + len(s)
		for n := len(s); n > 0; n /= 250 {
			sum++
		}
	}
	return sum
}

func step(t *testing.T, r *rand.Rand, s api.Shelf, h byHand) (api.Shelf, byHand) {
	t.Helper()
	if r.Intn(3) == 0 {
		return crashed(t, s, r.Intn(40)-2), h
	}
	n, l, deeds := []int{0, 1, 249, 250, last}[r.Intn(5)], someTexts(r), r.Intn(5)-1
	x, done, e := Save(s, n, l, deeds)
	p := draw(t, n, l...)
	if len(p) > s.Main.Most {
		if e != api.ErrFull || x != (api.Shelf{}) || done {
			t.Fatalf("P16.2: Save of %d bytes in %d: %+v, %t, %d", len(p), s.Main.Most, x, done, e)
		}
		return s, h
	}
	if e != api.OK || done != (deeds < 0 || deeds == 3) {
		t.Fatalf("P16.2: Save(%+v, %d, %q, %d): %t, %d", s, n, l, deeds, done, e)
	}
	if done {
		h = byHand{true, n, l}
	}
	return x, h
}

func TestAgainstPicturesByHand(t *testing.T) {
	r := rand.New(rand.NewSource(16))
	for range 300 {
		s, h := made(t, 12+r.Intn(30)), byHand{}
		for range 40 {
			s, h = step(t, r, s, h)
			h.isTold(t, s)
		}
	}
}

// What was handed in stays as it is, a call that comes again is answered alike, and no list that comes out is another one's.
func TestSharesNothing(t *testing.T) {
	back := []string{"a", "b", "behind", "farther behind"}
	l := back[:2]
	s := kept(80, draw(t, 5, "old", "older"), "x")
	x := saved(t, s, 6, l...)
	y := saved(t, s, 6, l...)
	if x != y || !slices.Equal(back, []string{"a", "b", "behind", "farther behind"}) || s != kept(80, draw(t, 5, "old", "older"), "x") {
		t.Errorf("R2: %+v, %+v, %q", x, y, back)
	}
	l[0] = "changed"
	loads(t, "R2", x, 6, []string{"a", "b"})
	_, a, _, _ := Load(x)
	_, b, _, _ := Load(x)
	a[0] = "changed"
	a = append(a, "more")
	b = append(b, "other")
	if !slices.Equal(a, []string{"changed", "b", "more"}) || !slices.Equal(b, []string{"a", "b", "other"}) {
		t.Errorf("R2: %q, %q", a, b)
	}
	loads(t, "R2", x, 6, []string{"a", "b"})
}

func FuzzLoad(f *testing.F) {
	for _, x := range drawn {
		f.Add(x.s)
		f.Add(x.s + "x")
	}
	f.Fuzz(func(t *testing.T, s string) {
		n, l, ok, e := Load(kept(4000, s, ""))
		if e != api.OK {
			if e != api.ErrArg || len(s) <= 4000 || ok || n != 0 || len(l) != 0 {
				t.Fatalf("P16.1: %d", e)
			}
			return
		}
		if !ok {
			if n != 0 || len(l) != 0 {
				t.Fatalf("P16.1: %d, %q", n, l)
			}
			return
		}
		if n < 0 || n > last || draw(t, n, l...) != s {
			t.Errorf("P16.1: what is told is not laid as it was: %d, %q", n, l)
		}
	})
}

func FuzzSave(f *testing.F) {
	for _, x := range drawn {
		f.Add(x.s, "", "x", x.n, 2, 80, 1, 3)
		f.Add("x", x.s, "new", x.n, 101, 4000, 2, 0)
	}
	f.Fuzz(func(t *testing.T, main, temp, text string, n, many, most, deeds, left int) {
		s, l := kept(most, main, temp), slices.Repeat([]string{text}, max(0, many%200))
		x, done, e := Save(s, n, l, deeds)
		if e != wants(s, n, l) {
			t.Fatalf("P16.2: %d, not %d", e, wants(s, n, l))
		}
		if e != api.OK {
			if x != (api.Shelf{}) || done {
				t.Fatalf("R1: %+v, %t", x, done)
			}
			return
		}
		if done != (deeds < 0 || deeds > 2) {
			t.Fatalf("P16.2: %d: %t", deeds, done)
		}
		y := crashed(t, x, left)
		if done {
			loads(t, "P16.3", y, n, l)
		} else if y.Main != s.Main {
			t.Errorf("P16.3: %+v", y)
		}
	})
}

// wants is the error of a Save, worked out without frames.
func wants(s api.Shelf, n int, l []string) api.Errno {
	if !file.Is(s.Main) || !file.Is(s.Temp) || s.Main.Most != s.Temp.Most || n < 0 || n > last {
		return api.ErrArg
	}
	number, _ := wire.Int(n)
	row := append([]string{number}, l...)
	count, _ := wire.Int(len(row))
	size := len(count) + byteCount(row...)
	if len(l) > 99 || size > 3000 {
		return api.ErrLimit
	}
	if p, e := frame.Row(3, row...); e != api.OK || len(p) > s.Main.Most {
		return api.ErrFull
	}
	return api.OK
}
