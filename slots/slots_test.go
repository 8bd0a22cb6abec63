package slots

import (
	"math"
	"math/rand"
	"slices"
	"strings"
	"testing"

	"watchman/api"
	"watchman/file"
	"watchman/frame"
	"watchman/wire"
)

const last = 1000000000

func long(n int) string { return strings.Repeat("x", n) }

// noted are numbers, texts and their notes, worked out by another program.
var noted = []struct {
	n    int
	text string
	s    string
}{
	{1, "", "\x02\xff\x02\xff\x01\xff3\xd5\xff"},
	{1, "a", "\x02\xff\x03\xff\x01\xffa\xa1)\xff"},
	{2, "b", "\x02\xff\x03\xff\x02\xffb*C\xff"},
	{3, "\xff", "\x02\xff\x03\xff\x03\xff\xff\x9a%\xff"},
	{5, long(1000), "\x02\xff\x02\x04\xff\x05\xff" + long(1000) + "\x87\x8d\xff"},
	{7, "\x07\xff", "\x02\xff\x04\xff\x07\xff\x07\xff\x14a\xff"},
	{249, "bed 12", "\x02\xff\x08\xff\xf9\xffbed 12\xb4\x9a\xff"},
	{250, "12/3 raised 1 5 15", "\x02\xff\x15\xff\x00\x01\xff12/3 raised 1 5 15\x0c\xef\xff"},
	{62500, "\xc3\xa9", "\x02\xff\x06\xff\x00\x00\x01\xff\xc3\xa9\xddI\xff"},
	{last - 1, "\xfe\xff\x00", "\x02\xff\x08\xff\xf9\xf9\xf9?\xff\xfe\xff\x00\xaa\xf3\xff"},
	{last, "z", "\x02\xff\x06\xff\x00\x00\x00@\xffz\xd1Y\xff"},
	{last, strings.Repeat("\xff", 1000), "\x02\xff\x05\x04\xff\x00\x00\x00@\xff" + strings.Repeat("\xff", 1000) + "\x98\xa6\xff"},
}

// forge is a frame of any kind, number and text.
func forge(t *testing.T, kind, n int, s string) string {
	t.Helper()
	head, e := wire.Int(n)
	if e != api.OK {
		t.Fatal(e)
	}
	return forged(t, kind, head+s)
}

// forged is a frame of any kind and text.
func forged(t *testing.T, kind int, s string) string {
	t.Helper()
	b, e := frame.Put(kind, s)
	if e != api.OK {
		t.Fatal(e)
	}
	return b
}

func noteOf(t *testing.T, n int, s string) string {
	t.Helper()
	return forge(t, 2, n, s)
}

// kept are slots of two files whose bytes are all kept.
func kept(most int, a, b string) api.Slots {
	return api.Slots{A: api.File{Most: most, Kept: a}, B: api.File{Most: most, Kept: b}}
}

// loads tells whether s is taken, and is loaded as text and n.
func loads(t *testing.T, promise string, s api.Slots, text string, n int) {
	t.Helper()
	if u, m, e := Load(s); e != api.OK || u != text || m != n {
		t.Errorf("%s: Load(%+v): %.40q, %d, %d, not %.40q, %d", promise, s, u, m, e, text, n)
	}
}

func saved(t *testing.T, s api.Slots, text string) api.Slots {
	t.Helper()
	x, done, e := Save(s, text, -1)
	if e != api.OK || !done {
		t.Fatalf("P15.2: Save(%+v, %.40q): %t, %d", s, text, done, e)
	}
	return x
}

func made(t *testing.T, most int) api.Slots {
	t.Helper()
	s, e := New(most)
	if e != api.OK {
		t.Fatalf("P15.1: New(%d): %d", most, e)
	}
	return s
}

func TestExample(t *testing.T) {
	s := made(t, 60)
	loads(t, "P15.1", s, "", 0)
	s = saved(t, s, "a")
	loads(t, "P15.3", s, "a", 1)
	x, done, e := Save(s, "b", 1)
	if e != api.OK || done {
		t.Fatalf("P15.2: %t, %d", done, e)
	}
	x, e = Crash(x, 3)
	if e != api.OK {
		t.Fatalf("P15.2: %d", e)
	}
	loads(t, "P15.3", x, "a", 1)
}

func TestNew(t *testing.T) {
	for _, most := range []int{1, 2, 60, 255, 256, 3999, 4000} {
		if s, e := New(most); e != api.OK || s != kept(most, "", "") {
			t.Errorf("P15.1: New(%d): %+v, %d", most, s, e)
		}
	}
	for _, most := range []int{0, -1, -60, 4001, 1 << 16, 1<<16 + 60, 1 << 31, 1 << 32, 1<<32 + 60, -1<<32 + 60, math.MaxInt, math.MinInt} {
		if s, e := New(most); e != api.ErrArg || s != (api.Slots{}) {
			t.Errorf("P15.1: New(%d): %+v, %d", most, s, e)
		}
	}
}

// better is what Better tells.
type better struct {
	text  string
	n, at int
}

func asks(t *testing.T, a, b string, want better) {
	t.Helper()
	text, n, at := Better(a, b)
	if got := (better{text, n, at}); got != want {
		t.Errorf("P15.1: Better(%.40q, %.40q): %.40q, %d, %d, not %.40q, %d, %d", a, b, got.text, got.n, got.at, want.text, want.n, want.at)
	}
}

func TestBetterOfOne(t *testing.T) {
	none := better{"", 0, -1}
	for _, x := range noted {
		for _, other := range []string{"", "x", "\xff", x.s[1:], x.s[:len(x.s)-1], x.s + "x"} {
			asks(t, x.s, other, better{x.text, x.n, 0})
			asks(t, other, x.s, better{x.text, x.n, 1})
			asks(t, other, other, none)
		}
	}
	asks(t, "", "", none)
}

func TestBetterOfTwo(t *testing.T) {
	for _, x := range noted {
		for _, y := range noted {
			want := better{x.text, x.n, 0}
			if y.n > x.n {
				want = better{y.text, y.n, 1}
			}
			asks(t, x.s, y.s, want)
		}
	}
}

// notNotes look like notes, but are none.
func notNotes(t *testing.T) []string {
	n := noteOf(t, 7, "a")
	l := []string{
		"", "\x00", "\xff", n + "x", n + "\x00", n + n, "x" + n, n[:len(n)-1], n[1:],
		noteOf(t, 0, "a"), noteOf(t, 0, ""), noteOf(t, -1, "a"), noteOf(t, -7, ""), noteOf(t, -last, "a"),
		noteOf(t, last+1, "a"), noteOf(t, last+7, ""), noteOf(t, math.MaxInt32, "a"), noteOf(t, -math.MaxInt32, "a"),
		forged(t, 2, ""), forged(t, 2, "\x07"), forged(t, 2, "\x07a"), forged(t, 2, "\x07\x00\xffa"), forged(t, 2, "\x07\xfa\xff"), forged(t, 2, "\xfea"), forged(t, 2, "\x00\xffa"),
		"\x02\xff\x03\xff\x01\xffa\xa2)\xff", "\x02\xff\x03\xff\x01\xffb\xa1)\xff", "\x02\xff\x03\xff\x02\xffa\xa1)\xff", "\x02\xff\x02\xff\x01\xffa\xa1)\xff",
	}
	for _, kind := range []int{0, 1, 3, 4, 98, 99} {
		l = append(l, forge(t, kind, 7, "a"), forge(t, kind, last, ""))
	}
	return l
}

func TestBetterOfNoNotes(t *testing.T) {
	l := notNotes(t)
	for _, a := range l {
		for _, b := range l {
			asks(t, a, b, better{"", 0, -1})
		}
		for _, x := range noted {
			asks(t, a, x.s, better{x.text, x.n, 1})
			asks(t, x.s, a, better{x.text, x.n, 0})
		}
	}
}

// Whichever of a note's bytes is cut off, lost or turned: it is none.
func TestBetterOfWhatIsBroken(t *testing.T) {
	old, r := noteOf(t, 249, "old"), noteOf(t, 250, "new")
	check := func(broken string) {
		t.Helper()
		asks(t, broken, "", better{"", 0, -1})
		asks(t, old, broken, better{"old", 249, 0})
		asks(t, broken, old, better{"old", 249, 1})
	}
	for i := range len(r) {
		check(r[:i])
		check(r[:i] + r[i+1:])
		for x := range 256 {
			if r[i] != byte(x) {
				check(r[:i] + string([]byte{byte(x)}) + r[i+1:])
			}
		}
	}
}

// No word bounds the text of a note that is read: Save alone does.
func TestBetterOfLongTexts(t *testing.T) {
	for _, size := range []int{1001, 1999, 2998} {
		asks(t, noteOf(t, 7, long(size)), noteOf(t, 6, "a"), better{long(size), 7, 0})
		asks(t, noteOf(t, 6, "a"), noteOf(t, 7, long(size)), better{long(size), 7, 1})
	}
}

// Wherever the bytes of both files are parted into kept and loose ones, they are loaded alike.
func TestLoad(t *testing.T) {
	a, b, c := noteOf(t, 5, "five"), noteOf(t, 6, ""), noteOf(t, 6, "six")
	for _, x := range []struct {
		a, b string
		text string
		n    int
	}{
		{"", "", "", 0}, {a, "", "five", 5}, {"", a, "five", 5}, {a, b, "", 6}, {b, a, "", 6}, {b, c, "", 6}, {c, b, "six", 6},
		{a, c[:len(c)-1], "five", 5}, {a, c + "x", "five", 5}, {c[1:], a, "five", 5}, {"x", "y", "", 0}, {a, a, "five", 5}, {a + b, "", "", 0},
	} {
		for i := range len(x.a) + 1 {
			for j := range len(x.b) + 1 {
				s := api.Slots{A: api.File{Most: 60, Kept: x.a[:i], Loose: x.a[i:]}, B: api.File{Most: 60, Kept: x.b[:j], Loose: x.b[j:]}}
				loads(t, "P15.1", s, x.text, x.n)
			}
		}
	}
	for _, x := range noted {
		loads(t, "P15.1", kept(len(x.s), x.s, ""), x.text, x.n)
		loads(t, "P15.1", kept(4000, "", x.s), x.text, x.n)
	}
	for _, x := range notNotes(t) {
		loads(t, "P15.1", kept(4000, x, x), "", 0)
		loads(t, "P15.1", kept(4000, x, a), "five", 5)
	}
}

// wrong are slots that are not right: a file of theirs is not, or they are not made for as many bytes.
func wrong(t *testing.T) []api.Slots {
	n := noteOf(t, 7, "a")
	good := api.File{Most: 60, Kept: n}
	l := []api.Slots{
		{}, {A: good}, {B: good},
		{A: good, B: api.File{Most: 61}}, {A: good, B: api.File{Most: 59, Kept: n}}, {A: api.File{Most: 61}, B: good}, {A: api.File{Most: 4000}, B: api.File{Most: 1}},
	}
	for _, most := range []int{0, -1, -60, 4001, 1<<16 + 60, 1<<32 + 60, -1<<32 + 60, math.MaxInt, math.MinInt} {
		bad := api.File{Most: most, Kept: n}
		l = append(l, api.Slots{A: bad, B: bad}, api.Slots{A: good, B: bad}, api.Slots{A: bad, B: good}, api.Slots{A: api.File{Most: most}, B: api.File{Most: most}})
	}
	for _, bad := range []api.File{{Most: len(n) - 1, Kept: n}, {Most: len(n) - 1, Loose: n}, {Most: len(n), Kept: n, Loose: "x"}, {Most: len(n), Kept: "x", Loose: n}, {Most: 4000, Kept: n, Loose: long(4000)}} {
		empty := api.File{Most: bad.Most}
		l = append(l, api.Slots{A: bad, B: bad}, api.Slots{A: bad, B: empty}, api.Slots{A: empty, B: bad})
	}
	return l
}

func TestWrongSlots(t *testing.T) {
	for i, s := range wrong(t) {
		if text, n, e := Load(s); e != api.ErrArg || text != "" || n != 0 {
			t.Errorf("P15.1: %d: Load: %q, %d, %d", i, text, n, e)
		}
		for _, n := range counts {
			for _, text := range []string{"", "a", long(1000), long(1001)} {
				if x, done, e := Save(s, text, n); e != api.ErrArg || x != (api.Slots{}) || done {
					t.Errorf("P15.2: %d: Save of %d bytes, %d: %+v, %t, %d", i, len(text), n, x, done, e)
				}
			}
			if x, e := Crash(s, n); e != api.ErrArg || x != (api.Slots{}) {
				t.Errorf("P15.2: %d: Crash %d: %+v, %d", i, n, x, e)
			}
		}
	}
}

// counts are numbers of deeds, and of bytes: some would be others, were they cut to fewer bits.
var counts = []int{-1, -2, -3, 0, 1, 2, 3, 4, 5, 255, 256, 257, 1 << 16, 1<<16 + 1, 1 << 31, 1 << 32, 1<<32 + 1, -1 << 32, -1<<32 + 1, math.MaxInt, math.MaxInt - 1, math.MinInt, math.MinInt + 1}

func TestSave(t *testing.T) {
	a, b := noteOf(t, 5, "five"), noteOf(t, 6, "six")
	for _, x := range []struct {
		a, b   string
		n      int
		behind bool // whether B is written
	}{
		{"", "", 1, false}, {"x", "y", 1, false}, {"", "left over", 1, false},
		{a, "", 6, true}, {"", a, 6, false}, {a, b, 7, false}, {b, a, 7, true}, {b, b, 7, true},
		{a, "x" + b, 6, true}, {a, b[:len(b)-1], 6, true}, {b + "x", a, 6, false},
		{noteOf(t, last-1, ""), "", last, true}, {a, noteOf(t, last-1, ""), last, false},
	} {
		for _, text := range []string{"", "a", "\xff\x00", "a text with some words"} {
			// All bytes are kept, all are loose, and some are this, some that.
			for part := range 3 {
				s := api.Slots{A: parted(60, x.a, part), B: parted(60, x.b, part)}
				note := noteOf(t, x.n, text)
				for _, deeds := range counts {
					want := s
					at := &want.A
					if x.behind {
						at = &want.B
					}
					done := deeds < 0 || deeds >= 2
					if done {
						*at = api.File{Most: 60, Kept: note}
					} else if deeds == 1 {
						*at = api.File{Most: 60, Loose: note}
					}
					if got, d, e := Save(s, text, deeds); e != api.OK || got != want || d != done {
						t.Errorf("P15.2: Save(%+v, %q, %d): %+v, %t, %d, not %+v", s, text, deeds, got, d, e, want)
					}
				}
			}
		}
	}
}

// parted is a file of s: all of it kept, a half of it, or none.
func parted(most int, s string, part int) api.File {
	at := len(s) * part / 2
	return api.File{Most: most, Kept: s[:len(s)-at], Loose: s[len(s)-at:]}
}

func TestSaveOfNotedTexts(t *testing.T) {
	for _, x := range noted {
		if len(x.text) > 1000 {
			continue
		}
		s := kept(4000, "", "")
		if x.n > 1 {
			s = kept(4000, "", noteOf(t, x.n-1, "ahead"))
		}
		if got := saved(t, s, x.text); got.A != (api.File{Most: 4000, Kept: x.s}) || got.B != s.B {
			t.Errorf("P15.2: Save of %d, %.40q: %+v", x.n, x.text, got)
		}
	}
}

func refuses(t *testing.T, s api.Slots, text string, want api.Errno) {
	t.Helper()
	for _, deeds := range counts {
		if x, done, e := Save(s, text, deeds); e != want || x != (api.Slots{}) || done {
			t.Errorf("P15.2: Save of %d bytes, %d, in %+v: %+v, %t, %d, not %d", len(text), deeds, s, x, done, e, want)
		}
	}
}

func TestSaveRefuses(t *testing.T) {
	ended, ending := noteOf(t, last, "the last one"), noteOf(t, last-1, "the last but one")
	for _, size := range []int{1001, 1002, 3000, 3001, 4000, 1 << 16, 1<<16 + 1} {
		for _, s := range []api.Slots{kept(4000, "", ""), kept(5, "", ""), kept(60, ended, ""), kept(60, noteOf(t, 5, "a"), "x")} {
			refuses(t, s, long(size), api.ErrLimit)
		}
	}
	for _, text := range []string{"", "a", long(1000), long(1001)} {
		for _, s := range []api.Slots{kept(60, ended, ""), kept(60, "", ended), kept(60, ended, ending), kept(60, ending, ended), kept(60, ended, ended), kept(len(ended), ended, "")} {
			refuses(t, s, text, api.ErrLimit)
		}
	}
	for _, most := range []int{1, 2, 9, 20, 1000} {
		refuses(t, kept(most, "", ""), long(1000), api.ErrFull)
	}
	for _, most := range []int{1, 2, 8} {
		refuses(t, kept(most, "", ""), "", api.ErrFull)
	}
}

// A note is told to be too much by its own bytes alone, whatever the file has ahead.
func TestSaveFillsAFile(t *testing.T) {
	for _, text := range []string{"", "a", "abcdef", long(300), long(1000)} {
		for _, n := range []int{1, 2, 249, 250, 251, 62500, last - 1, last} {
			note := noteOf(t, n, text)
			ahead := ""
			if n > 1 {
				ahead = noteOf(t, n-1, "")
			}
			for most := len(note) - 2; most <= len(note)+2; most++ {
				if most < len(ahead) {
					continue
				}
				s := kept(most, ahead, strings.Repeat("y", most))
				want := s
				want.B = api.File{Most: most, Kept: note}
				if ahead == "" {
					want = api.Slots{A: api.File{Most: most, Kept: note}, B: s.B}
				}
				if len(note) > most {
					refuses(t, s, text, api.ErrFull)
				} else if got := saved(t, s, text); got != want {
					t.Errorf("P15.2: Save(%+v, %.40q): %+v", s, text, got)
				}
			}
		}
	}
}

func TestCrash(t *testing.T) {
	files := []api.File{{Most: 60}, {Most: 60, Kept: "ab"}, {Most: 60, Loose: "cde"}, {Most: 60, Kept: "ab", Loose: "cdef"}, {Most: 60, Loose: noteOf(t, 5, "a")}}
	for _, a := range files {
		for _, b := range files {
			for _, n := range append([]int{6, 7, 8, 9, 10, 11}, counts...) {
				wa, _ := file.Crash(a, n)
				wb, _ := file.Crash(b, n)
				if x, e := Crash(api.Slots{A: a, B: b}, n); e != api.OK || x != (api.Slots{A: wa, B: wb}) {
					t.Errorf("P15.2: Crash(%+v, %+v, %d): %+v, %d", a, b, n, x, e)
				}
			}
		}
	}
}

func TestWhatIsSavedIsLoaded(t *testing.T) {
	s := made(t, 1100)
	for i, text := range []string{"a", "", "c", "c", "\xff\x00", long(1000), "", "é", "\x02\xff\x02\xff\x01\xff3\xd5\xff"} {
		s = saved(t, s, text)
		loads(t, "P15.3", s, text, i+1)
		if s.A.Loose+s.B.Loose != "" {
			t.Errorf("P15.2: %d: loose bytes: %+v", i, s)
		}
	}
	for range 300 {
		_, n, _ := Load(s)
		s = saved(t, s, "again")
		loads(t, "P15.3", s, "again", n+1)
	}
}

// A save is stopped at each deed, and a crash leaves each number of bytes: the old text is loaded, or the new one; and it goes on.
func TestSaveAndCrash(t *testing.T) {
	for before := range 4 {
		s := made(t, 60)
		old := ""
		for i := range before {
			old = []string{"one", "", "three"}[i]
			s = saved(t, s, old)
		}
		note := noteOf(t, before+1, "new")
		for deeds := range 4 {
			x, done, e := Save(s, "new", deeds)
			if e != api.OK || done != (deeds >= 2) {
				t.Fatalf("P15.2: %d: %t, %d", deeds, done, e)
			}
			for n := -1; n <= len(note)+1; n++ {
				y, e := Crash(x, n)
				if e != api.OK || y.A.Loose+y.B.Loose != "" {
					t.Fatalf("P15.2: Crash(%+v, %d): %+v, %d", x, n, y, e)
				}
				text, at := old, before
				if done || deeds == 1 && n >= len(note) {
					text, at = "new", before+1
				}
				loads(t, "P15.3", y, text, at)
				y = saved(t, y, "more")
				loads(t, "P15.3", y, "more", at+1)
			}
		}
	}
}

// byHand is what slots have: the note that outlives each crash, and the one that is loaded.
type byHand struct {
	sure, seen better
}

func step(t *testing.T, r *rand.Rand, s api.Slots, h byHand) (api.Slots, byHand) {
	t.Helper()
	if r.Intn(3) == 0 {
		x, e := Crash(s, r.Intn(30)-2)
		if e != api.OK {
			t.Fatalf("P15.2: Crash(%+v): %d", s, e)
		}
		text, n, e := Load(x)
		got := better{text: text, n: n}
		if e != api.OK || got != h.sure && got != h.seen {
			t.Fatalf("P15.3: Crash of %+v: %+v, %d, neither %+v nor %+v", s, got, e, h.sure, h.seen)
		}
		return x, byHand{got, got}
	}
	if s.A.Loose+s.B.Loose != "" {
		// What follows holds only if nothing was loose ahead.
		x, e := Crash(s, math.MaxInt)
		if e != api.OK {
			t.Fatalf("P15.2: Crash(%+v): %d", s, e)
		}
		s, h.sure = x, h.seen
	}
	text := string([]byte{byte(r.Intn(256)), byte(255 - r.Intn(9)), byte(r.Intn(256))}[:r.Intn(4)])
	deeds := r.Intn(4) - 1
	x, done, e := Save(s, text, deeds)
	if e != api.OK || done != (deeds < 0 || deeds == 2) {
		t.Fatalf("P15.2: Save(%+v, %q, %d): %t, %d", s, text, deeds, done, e)
	}
	if deeds != 0 {
		h.seen = better{text: text, n: h.seen.n + 1}
	}
	if done {
		h.sure = h.seen
	}
	return x, h
}

func TestAgainstNotesByHand(t *testing.T) {
	r := rand.New(rand.NewSource(15))
	for range 300 {
		s, h := made(t, 20+r.Intn(60)), byHand{}
		for range 40 {
			s, h = step(t, r, s, h)
			loads(t, "P15.3", s, h.seen.text, h.seen.n)
		}
	}
}

// What was handed in stays as it is, and a call that comes again is answered alike.
func TestSlotsStayAsTheyAre(t *testing.T) {
	s := api.Slots{A: api.File{Most: 60, Kept: noteOf(t, 5, "a"), Loose: ""}, B: api.File{Most: 60, Kept: "k", Loose: "loose"}}
	was := s
	x, _, _ := Save(s, "new", -1)
	y, _, _ := Save(s, "new", -1)
	c, _ := Crash(s, 2)
	d, _ := Crash(s, 2)
	if s != was || x != y || c != d || x == s || c == s {
		t.Errorf("R2: %+v, %+v, %+v, %+v, %+v", s, x, y, c, d)
	}
}

func FuzzBetter(f *testing.F) {
	for i, x := range noted {
		f.Add(x.s, noted[(i+1)%len(noted)].s)
		f.Add(x.s, "x")
		f.Add(x.s+"x", x.s)
	}
	f.Fuzz(func(t *testing.T, a, b string) {
		text, n, at := Better(a, b)
		if at == -1 {
			if text != "" || n != 0 {
				t.Fatalf("P15.1: %q, %d", text, n)
			}
			return
		}
		if n < 1 || n > last || at != 0 && at != 1 {
			t.Fatalf("P15.1: %q, %d, %d", text, n, at)
		}
		if noteOf(t, n, text) != []string{a, b}[at] {
			t.Errorf("P15.1: what is told is not laid as it was: %q, %d", text, n)
		}
		both := []string{a, b}
		both[at] = ""
		if u, m, _ := Better(both[0], both[1]); m > n || m == n && at == 1 {
			t.Errorf("P15.1: %q, %d is better", u, m)
		}
	})
}

func FuzzSave(f *testing.F) {
	for _, x := range noted {
		f.Add(x.s, "", x.text, 60, 1, 3)
		f.Add("x", x.s, "new", 4000, 2, 0)
	}
	f.Fuzz(func(t *testing.T, a, b, text string, most, deeds, n int) {
		s := kept(most, a, b)
		old, m, e := Load(s)
		x, done, g := Save(s, text, deeds)
		if !slices.Contains([]api.Errno{api.OK, api.ErrArg, api.ErrLimit, api.ErrFull}, g) || (e == api.ErrArg) != (g == api.ErrArg) {
			t.Fatalf("P15.2: %d, %d", e, g)
		}
		if g != api.OK {
			if x != (api.Slots{}) || done {
				t.Fatalf("R1: %+v, %t", x, done)
			}
			return
		}
		y, e := Crash(x, n)
		if e != api.OK {
			t.Fatalf("P15.2: %d", e)
		}
		u, k, e := Load(y)
		made := u == text && k == m+1
		if e != api.OK || !made && (u != old || k != m) || done && !made || deeds == 0 && made {
			t.Errorf("P15.3: %q, %d, %d", u, k, e)
		}
	})
}
