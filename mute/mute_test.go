package mute

import (
	"math"
	"math/rand"
	"slices"
	"testing"

	"watchman/api"
)

const (
	lastTime = 1000000000
	most     = 100
)

// noTimes are numbers that are no time: some would be one, were they cut to fewer bits.
var noTimes = []int{-1, -2, -100, lastTime + 1, lastTime + 2, 1 << 31, 1 << 32, 1<<32 + 3, -1 << 32, math.MaxInt, math.MinInt}

// noBeds are numbers of beds that there are not.
var noBeds = []int{0, -1, -99, 100, 101, 256 + 1, 1<<32 + 1, -1<<32 + 1, math.MaxInt, math.MinInt}

func of(bed, from, to int) api.Window { return api.Window{Bed: bed, From: from, To: to} }

func list(l ...api.Window) []api.Window { return l }

// comb is n windows of one time each, of a bed, with one time between two.
func comb(bed, n int) []api.Window {
	var l []api.Window
	for i := range n {
		l = append(l, of(bed, 2*i, 2*i+1))
	}
	return l
}

// spread is right: of several beds, up to both ends.
func spread() []api.Window {
	return list(
		of(1, 0, 5), of(1, 7, 20),
		of(2, 4, 6), of(2, 8, 9), of(2, 10, 11),
		of(10, 0, lastTime),
		of(50, 3, 4),
		of(99, 0, 1), of(99, lastTime-1, lastTime),
	)
}

// wrongWindows are those that may not be.
func wrongWindows() []api.Window {
	l := list(api.Window{}, of(1, 0, 0), of(1, 2, 2), of(1, 3, 2), of(1, lastTime, lastTime), of(1, lastTime, 0),
		of(1, math.MaxInt, math.MinInt), of(1, math.MinInt, math.MaxInt), of(0, 0, 0))
	for _, b := range noBeds {
		l = append(l, of(b, 1, 2))
	}
	for _, n := range noTimes {
		l = append(l, of(1, n, 2), of(1, n, lastTime), of(1, 0, n), of(1, 2, n), of(1, n, n))
	}
	return l
}

// wrong are lists that are not right, though some of them have windows that may be alone.
func wrong() [][]api.Window {
	l := [][]api.Window{
		{of(1, 1, 5), of(1, 5, 6)},
		{of(1, 1, 5), of(1, 4, 6)},
		{of(1, 1, 5), of(1, 1, 5)},
		{of(1, 1, 5), of(1, 1, 9)},
		{of(1, 1, 9), of(1, 2, 3)},
		{of(1, 7, 8), of(1, 1, 2)},
		{of(1, 7, 8), of(1, 1, 7)},
		{of(2, 1, 5), of(1, 7, 8)},
		{of(2, 7, 8), of(1, 1, 5)},
		{of(1, 1, 2), of(2, 1, 2), of(1, 4, 5)},
		{of(1, 1, 2), of(3, 1, 2), of(2, 1, 2)},
		{of(1, 1, 2), of(1, 4, 5), of(1, 5, 6)},
		{of(99, 0, 1), of(99, lastTime-1, lastTime), of(1, 0, 1)},
		comb(5, most+1),
		comb(5, 3*most),
		append(comb(5, most), of(6, 0, 1)),
	}
	for _, x := range wrongWindows() {
		l = append(l, list(x), list(x, of(99, 0, 1)), list(of(1, 0, 1), x), list(of(1, 0, 1), x, of(99, 3, 4)))
	}
	return l
}

func right() [][]api.Window {
	l := [][]api.Window{
		nil,
		{},
		{of(1, 0, 1)},
		{of(99, lastTime-1, lastTime)},
		{of(1, 0, lastTime)},
		{of(1, 1, 5), of(1, 6, 7)},
		{of(1, 1, 5), of(2, 5, 7)},
		{of(1, 1, 5), of(2, 0, 1)},
		{of(1, 1, 5), of(2, 1, 5)},
		{of(9, 1, 5), of(10, 1, 5)},
		spread(),
		comb(5, most-1),
		comb(5, most),
		comb(99, most),
		append(comb(5, most-1), of(6, 0, 1)),
	}
	var beds []api.Window
	for b := range 99 {
		beds = append(beds, of(b+1, b, lastTime))
	}
	return append(l, beds)
}

func TestIs(t *testing.T) {
	for i, l := range right() {
		if !Is(l) {
			t.Errorf("P10.1: the right list %d is none", i)
		}
	}
	for i, l := range wrong() {
		if Is(l) {
			t.Errorf("P10.1: the wrong list %d is right", i)
		}
	}
}

func TestExample(t *testing.T) {
	l := list(of(1, 1, 5), of(1, 7, 20))
	if a, e := Add(l, of(1, 5, 9)); e != api.OK || !slices.Equal(a, list(of(1, 1, 20))) {
		t.Errorf("P10.1: Add: %v, %d", a, e)
	}
	if c, e := Cut(l, of(1, 5, 9)); e != api.OK || !slices.Equal(c, list(of(1, 1, 5), of(1, 9, 20))) {
		t.Errorf("P10.1: Cut: %v, %d", c, e)
	}
}

func TestAddAndCut(t *testing.T) {
	l := list(of(1, 10, 20), of(1, 30, 40), of(3, 0, 5))
	for i, c := range []struct{ m, add, cut []api.Window }{
		{nil, l, l},
		{list(of(1, 10, 20)), l, list(of(1, 30, 40), of(3, 0, 5))},
		{l, l, nil},
		// Beside it, touching it, and a time into it, at both ends.
		{list(of(1, 5, 9)), list(of(1, 5, 9), l[0], l[1], l[2]), l},
		{list(of(1, 5, 10)), list(of(1, 5, 20), l[1], l[2]), l},
		{list(of(1, 5, 11)), list(of(1, 5, 20), l[1], l[2]), list(of(1, 11, 20), l[1], l[2])},
		{list(of(1, 19, 25)), list(of(1, 10, 25), l[1], l[2]), list(of(1, 10, 19), l[1], l[2])},
		{list(of(1, 20, 25)), list(of(1, 10, 25), l[1], l[2]), l},
		{list(of(1, 21, 25)), list(l[0], of(1, 21, 25), l[1], l[2]), l},
		// Inside, with one edge or with none.
		{list(of(1, 12, 13)), l, list(of(1, 10, 12), of(1, 13, 20), l[1], l[2])},
		{list(of(1, 10, 13)), l, list(of(1, 13, 20), l[1], l[2])},
		{list(of(1, 13, 20)), l, list(of(1, 10, 13), l[1], l[2])},
		{list(of(1, 19, 20)), l, list(of(1, 10, 19), l[1], l[2])},
		// Between, over one, over several, over all.
		{list(of(1, 20, 30)), list(of(1, 10, 40), l[2]), l},
		{list(of(1, 21, 29)), list(l[0], of(1, 21, 29), l[1], l[2]), l},
		{list(of(1, 15, 35)), list(of(1, 10, 40), l[2]), list(of(1, 10, 15), of(1, 35, 40), l[2])},
		{list(of(1, 10, 35)), list(of(1, 10, 40), l[2]), list(of(1, 35, 40), l[2])},
		{list(of(1, 9, 41)), list(of(1, 9, 41), l[2]), list(l[2])},
		{list(of(1, 0, lastTime)), list(of(1, 0, lastTime), l[2]), list(l[2])},
		// Of other beds, ahead, between and behind.
		{list(of(2, 15, 35)), list(l[0], l[1], of(2, 15, 35), l[2]), l},
		{list(of(4, 0, 5)), list(l[0], l[1], l[2], of(4, 0, 5)), l},
		{list(of(99, lastTime-1, lastTime)), list(l[0], l[1], l[2], of(99, lastTime-1, lastTime)), l},
		{list(of(3, 5, 6), of(1, 8, 9)), list(of(1, 8, 9), l[0], l[1], of(3, 0, 6)), l},
		// Several, in any order, over each other, and twice.
		{list(of(1, 16, 18), of(1, 12, 14)), l, list(of(1, 10, 12), of(1, 14, 16), of(1, 18, 20), l[1], l[2])},
		{list(of(1, 12, 18), of(1, 13, 14)), l, list(of(1, 10, 12), of(1, 18, 20), l[1], l[2])},
		{list(of(1, 13, 14), of(1, 13, 18), of(1, 13, 14)), l, list(of(1, 10, 13), of(1, 18, 20), l[1], l[2])},
		{list(of(1, 15, 16), of(1, 14, 15)), l, list(of(1, 10, 14), of(1, 16, 20), l[1], l[2])},
		{list(of(1, 24, 30), of(1, 20, 22), of(1, 22, 24)), list(of(1, 10, 40), l[2]), l},
		{list(of(3, 1, 2), of(1, 35, 50), of(3, 3, 4), of(1, 5, 15)), list(of(1, 5, 20), of(1, 30, 50), l[2]), list(of(1, 15, 20), of(1, 30, 35), of(3, 0, 1), of(3, 2, 3), of(3, 4, 5))},
		// What stays behind a long one is not taken for what is in a short one.
		{list(of(1, 0, 50), of(1, 12, 13), of(1, 45, 46)), list(of(1, 0, 50), l[2]), list(l[2])},
	} {
		if a, e := Add(l, c.m...); e != api.OK || !slices.Equal(a, c.add) {
			t.Errorf("P10.1: Add %d: %v, %d, want %v", i, a, e, c.add)
		}
		if x, e := Cut(l, c.m...); e != api.OK || !slices.Equal(x, c.cut) {
			t.Errorf("P10.1: Cut %d: %v, %d, want %v", i, x, e, c.cut)
		}
	}
}

func TestAddToNone(t *testing.T) {
	for _, l := range [][]api.Window{nil, {}} {
		if a, e := Add(l); e != api.OK || len(a) != 0 {
			t.Errorf("P10.1: Add of nothing to none: %v, %d", a, e)
		}
		if c, e := Cut(l); e != api.OK || len(c) != 0 {
			t.Errorf("P10.1: Cut of nothing from none: %v, %d", c, e)
		}
		if a, e := Add(l, of(2, 0, 1), of(1, 0, lastTime), of(2, 1, 2)); e != api.OK || !slices.Equal(a, list(of(1, 0, lastTime), of(2, 0, 2))) {
			t.Errorf("P10.1: Add to none: %v, %d", a, e)
		}
		if c, e := Cut(l, of(2, 0, 1)); e != api.OK || len(c) != 0 {
			t.Errorf("P10.1: Cut from none: %v, %d", c, e)
		}
	}
}

func TestWrong(t *testing.T) {
	for i, l := range wrong() {
		for _, m := range [][]api.Window{nil, {of(1, 0, 1)}, {of(1, 0, lastTime), of(5, 0, lastTime)}, {{}}} {
			if a, e := Add(l, m...); e != api.ErrArg || len(a) != 0 {
				t.Errorf("P10.1: Add to the wrong list %d: %v, %d", i, a, e)
			}
			if c, e := Cut(l, m...); e != api.ErrArg || len(c) != 0 {
				t.Errorf("P10.1: Cut from the wrong list %d: %v, %d", i, c, e)
			}
		}
		for _, bed := range []int{1, 2, 5, 99} {
			if n := Total(l, bed); n != 0 {
				t.Errorf("P10.2: Total of the wrong list %d: %d", i, n)
			}
		}
	}
	for i, x := range wrongWindows() {
		for _, l := range right() {
			for _, m := range [][]api.Window{{x}, {of(1, 0, 1), x}, {x, of(1, 0, 1)}} {
				if a, e := Add(l, m...); e != api.ErrArg || len(a) != 0 {
					t.Errorf("P10.1: Add of the wrong window %d: %v, %d", i, a, e)
				}
				if c, e := Cut(l, m...); e != api.ErrArg || len(c) != 0 {
					t.Errorf("P10.1: Cut of the wrong window %d: %v, %d", i, c, e)
				}
			}
		}
	}
}

func TestAddFull(t *testing.T) {
	full := comb(5, most)
	for i, c := range []struct {
		l, m []api.Window
		n    int
		e    api.Errno
	}{
		{full, nil, most, api.OK},
		{full, full, most, api.OK},
		{full, list(of(6, 0, 1)), 0, api.ErrFull},
		{full, list(of(5, 200, 201)), 0, api.ErrFull},
		{full, list(of(4, 0, lastTime)), 0, api.ErrFull},
		// One that is joined is not one more, and makes room for others.
		{full, list(of(5, 199, 200)), most, api.OK},
		{full, list(of(5, 1, 2), of(6, 0, 1)), most, api.OK},
		{full, list(of(6, 0, 1), of(7, 0, 1), of(5, 1, 2)), 0, api.ErrFull},
		{full, list(of(5, 0, lastTime)), 1, api.OK},
		{full[1:], list(of(6, 0, 1)), most, api.OK},
		{full[1:], list(of(6, 0, 1), of(6, 2, 3)), 0, api.ErrFull},
		{nil, full, most, api.OK},
		{nil, comb(5, most+1), 0, api.ErrFull},
		{nil, append(comb(5, 300), of(5, 0, 999)), 1, api.OK},
		{nil, append(comb(5, 300), of(5, 1, 598)), 1, api.OK},
		// A wrong one is told ahead of too many.
		{full, list(of(6, 0, 1), of(6, 0, 0)), 0, api.ErrArg},
		{nil, append(comb(5, 300), of(100, 0, 1)), 0, api.ErrArg},
	} {
		a, e := Add(c.l, c.m...)
		if e != c.e || len(a) != c.n {
			t.Errorf("P10.1: Add %d: %d windows, %d", i, len(a), e)
		}
	}
}

func TestCutFull(t *testing.T) {
	full := comb(5, most)
	long := list(of(5, 0, lastTime))
	gaps := func(n int) []api.Window {
		var l []api.Window
		for i := range n {
			l = append(l, of(5, 2*i+1, 2*i+2))
		}
		return l
	}
	for i, c := range []struct {
		l, m []api.Window
		n    int
		e    api.Errno
	}{
		{full, nil, most, api.OK},
		{full, full, 0, api.OK},
		{full, list(of(6, 0, 1)), most, api.OK},
		{long, gaps(most - 1), most, api.OK},
		{long, gaps(most), 0, api.ErrFull},
		{long, gaps(300), 0, api.ErrFull},
		{long, append(gaps(300), of(5, 100, lastTime)), 50, api.OK},
		{long, comb(5, most), most, api.OK},
		{long, comb(5, most+1), 0, api.ErrFull},
		{append(comb(4, most-1), long[0]), list(of(5, 7, 9)), 0, api.ErrFull},
		{append(comb(4, most-1), long[0]), list(of(5, 7, 9), of(4, 0, 1)), most, api.OK},
		{append(comb(4, most-1), long[0]), list(of(5, 0, 9)), most, api.OK},
		{long, append(gaps(300), of(5, 3, 3)), 0, api.ErrArg},
	} {
		a, e := Cut(c.l, c.m...)
		if e != c.e || len(a) != c.n {
			t.Errorf("P10.1: Cut %d: %d windows, %d", i, len(a), e)
		}
	}
}

func TestTill(t *testing.T) {
	for i, c := range []struct {
		bed, at, till int
		ok            bool
	}{
		{1, 0, 5, true}, {1, 4, 5, true}, {1, 5, 0, false}, {1, 6, 0, false}, {1, 7, 20, true}, {1, 19, 20, true}, {1, 20, 0, false},
		{1, -1, 0, false}, {1, lastTime, 0, false}, {1, math.MinInt, 0, false}, {1, math.MaxInt, 0, false}, {1, 1 << 32, 0, false},
		{2, 3, 0, false}, {2, 8, 9, true}, {2, 9, 0, false}, {2, 10, 11, true},
		{3, 8, 0, false}, {0, 0, 0, false}, {-1, 0, 0, false}, {1<<32 + 1, 0, 0, false}, {math.MinInt, 0, 0, false}, {math.MaxInt, 0, 0, false},
		{10, 0, lastTime, true}, {10, lastTime - 1, lastTime, true}, {10, lastTime, 0, false},
		{99, 0, 1, true}, {99, 1, 0, false}, {99, lastTime - 1, lastTime, true},
	} {
		if n, ok := Till(spread(), c.bed, c.at); n != c.till || ok != c.ok {
			t.Errorf("P10.2: Till %d: %d, %t", i, n, ok)
		}
		if Has(spread(), c.bed, c.at) != c.ok {
			t.Errorf("P10.2: Has %d", i)
		}
	}
	if n, ok := Till(nil, 1, 0); n != 0 || ok || Has(nil, 1, 0) {
		t.Errorf("P10.2: Till of none: %d, %t", n, ok)
	}
}

// Windows that are not right are asked alike: the first of them that has the time tells.
func TestTillOfAny(t *testing.T) {
	l := list(
		of(1, 10, 20), of(1, 5, 30), of(1, 0, 15), of(2, 5, 5), of(3, 9, 2), of(1, 1, 2),
		of(0, -5, 5), of(-7, math.MinInt, math.MaxInt), of(math.MaxInt, math.MaxInt-1, math.MaxInt),
		of(math.MinInt, math.MinInt, math.MinInt+1), of(100, -3, 0), of(4, 5, -5), of(0, 0, 9))
	for i, c := range []struct {
		bed, at, till int
		ok            bool
	}{
		{1, 10, 20, true}, {1, 19, 20, true}, {1, 20, 30, true}, {1, 5, 30, true}, {1, 9, 30, true}, {1, 4, 15, true}, {1, 1, 15, true}, {1, 30, 0, false}, {1, -1, 0, false},
		{2, 5, 0, false}, {3, 2, 0, false}, {3, 5, 0, false}, {3, 9, 0, false}, {4, 0, 0, false},
		{0, -5, 5, true}, {0, 4, 5, true}, {0, 5, 9, true}, {0, -6, 0, false},
		{-7, math.MinInt, math.MaxInt, true}, {-7, 0, math.MaxInt, true}, {-7, math.MaxInt - 1, math.MaxInt, true}, {-7, math.MaxInt, 0, false},
		{math.MaxInt, math.MaxInt - 1, math.MaxInt, true}, {math.MaxInt, math.MaxInt, 0, false},
		{math.MinInt, math.MinInt, math.MinInt + 1, true}, {math.MinInt, math.MinInt + 1, 0, false},
		// The To that is told may be 0 as well.
		{100, -1, 0, true}, {100, 0, 0, false},
	} {
		if n, ok := Till(l, c.bed, c.at); n != c.till || ok != c.ok {
			t.Errorf("P10.2: Till %d: %d, %t", i, n, ok)
		}
		if Has(l, c.bed, c.at) != c.ok {
			t.Errorf("P10.2: Has %d", i)
		}
	}
	// More windows than may be right, too.
	many := append(comb(5, 500), of(6, 7, 8))
	if n, ok := Till(many, 6, 7); n != 8 || !ok || !Has(many, 5, 998) || Has(many, 5, 999) {
		t.Errorf("P10.2: Till of many: %d, %t", n, ok)
	}
}

func TestTotal(t *testing.T) {
	for bed, want := range map[int]int{1: 18, 2: 4, 3: 0, 10: lastTime, 50: 1, 99: 2, 0: 0, -1: 0, 100: 0, 1<<32 + 1: 0, math.MaxInt: 0, math.MinInt: 0} {
		if n := Total(spread(), bed); n != want {
			t.Errorf("P10.2: Total of %d: %d, want %d", bed, n, want)
		}
	}
	if Total(nil, 1) != 0 || Total(comb(5, most), 5) != most || Total(comb(5, most+1), 5) != 0 {
		t.Errorf("P10.2: Total of none, of all that may be, or of one more")
	}
}

// The beds and small times that the tests by hand go through; no window has the last time, nor the bed 0.
const (
	handBeds  = 3
	handTimes = 16
)

// hand is which times of the first beds are had.
type hand [handBeds + 1][handTimes]bool

func (h *hand) mark(on bool, l ...api.Window) {
	for _, x := range l {
		for at := x.From; at < x.To; at++ {
			h[x.Bed][at] = on
		}
	}
}

// told reads the windows off, time by time: so they are as few as there can be.
func (h *hand) told() []api.Window {
	var l []api.Window
	for bed := range h {
		for at, on := range h[bed] {
			switch {
			case !on:
			case at > 0 && h[bed][at-1]:
				l[len(l)-1].To++
			default:
				l = append(l, of(bed, at, at+1))
			}
		}
	}
	return l
}

// some are windows by chance, in any order.
func some(r *rand.Rand, n int) []api.Window {
	var l []api.Window
	for range r.Intn(n) {
		from := r.Intn(handTimes - 1)
		l = append(l, of(1+r.Intn(handBeds), from, from+1+r.Intn(min(5, handTimes-1-from))))
	}
	return l
}

func TestByHand(t *testing.T) {
	r := rand.New(rand.NewSource(10))
	for range 5000 {
		var h hand
		h.mark(true, some(r, 9)...)
		l, m := h.told(), some(r, 9)
		if !Is(l) {
			t.Fatalf("P10.1: %v is not right", l)
		}
		added, cut := h, h
		added.mark(true, m...)
		cut.mark(false, m...)
		a, e := Add(l, m...)
		c, f := Cut(l, m...)
		if e != api.OK || !slices.Equal(a, added.told()) || !Is(a) {
			t.Fatalf("P10.1: Add of %v to %v: %v, %d, want %v", m, l, a, e, added.told())
		}
		if f != api.OK || !slices.Equal(c, cut.told()) || !Is(c) {
			t.Fatalf("P10.1: Cut of %v from %v: %v, %d, want %v", m, l, c, f, cut.told())
		}
		for bed := range h {
			n := 0
			for at, on := range h[bed] {
				if Has(l, bed, at) != on {
					t.Fatalf("P10.2: Has of %v: bed %d at %d", l, bed, at)
				}
				if on {
					n++
				}
			}
			if Total(l, bed) != n {
				t.Fatalf("P10.2: Total of %v of bed %d: %d, want %d", l, bed, Total(l, bed), n)
			}
		}
	}
}

// edges are the times at which windows begin or end, and those beside them.
func edges(lists ...[]api.Window) []int {
	l := []int{-1, lastTime + 1}
	for _, x := range slices.Concat(lists...) {
		l = append(l, x.From-1, x.From, x.From+1, x.To-1, x.To, x.To+1)
	}
	return l
}

func TestHadBehind(t *testing.T) {
	r := rand.New(rand.NewSource(11))
	moreOf := [][]api.Window{nil, {of(10, 5, lastTime-5)}, {of(1, 5, 7), of(99, 1, lastTime-1)}, spread(), {of(2, 0, 20), of(3, 0, 20), of(2, 30, lastTime)}}
	for range 200 {
		moreOf = append(moreOf, some(r, 6))
	}
	for _, m := range moreOf {
		l := spread()
		a, e := Add(l, m...)
		c, f := Cut(l, m...)
		if e != api.OK || f != api.OK {
			t.Fatalf("P10.3: %v: %d, %d", m, e, f)
		}
		for _, bed := range []int{0, 1, 2, 3, 10, 50, 99} {
			for _, at := range edges(l, m) {
				was, has := Has(l, bed, at), Has(m, bed, at)
				if Has(a, bed, at) != (was || has) {
					t.Fatalf("P10.3: behind an Add of %v: bed %d at %d", m, bed, at)
				}
				if Has(c, bed, at) != (was && !has) {
					t.Fatalf("P10.3: behind a Cut of %v: bed %d at %d", m, bed, at)
				}
			}
		}
	}
}

// do is Add or Cut that must not fail.
func do(t *testing.T, f func([]api.Window, ...api.Window) ([]api.Window, api.Errno), l []api.Window, m ...api.Window) []api.Window {
	t.Helper()
	x, e := f(l, m...)
	if e != api.OK {
		t.Fatalf("P10.3: %v, %v: %d", l, m, e)
	}
	return x
}

func TestAnyOrder(t *testing.T) {
	r := rand.New(rand.NewSource(12))
	for range 500 {
		l, m := do(t, Add, nil, some(r, 9)...), some(r, 9)
		mixed := slices.Clone(m)
		r.Shuffle(len(mixed), func(i, j int) { mixed[i], mixed[j] = mixed[j], mixed[i] })
		for name, f := range map[string]func([]api.Window, ...api.Window) ([]api.Window, api.Errno){"Add": Add, "Cut": Cut} {
			want := do(t, f, l, m...)
			one := l
			for _, x := range mixed {
				one = do(t, f, one, x)
			}
			if !slices.Equal(do(t, f, l, mixed...), want) || !slices.Equal(one, want) {
				t.Fatalf("P10.3: %s of %v, %v in another order, or one by one", name, l, m)
			}
			if !slices.Equal(do(t, f, want, m...), want) {
				t.Fatalf("P10.3: %s of %v, %v once more", name, l, m)
			}
		}
		if !slices.Equal(do(t, Cut, do(t, Add, l, m...), mixed...), do(t, Cut, l, m...)) {
			t.Fatalf("P10.3: %v, %v: added and cut again", l, m)
		}
		if !slices.Equal(do(t, Add, do(t, Cut, l, m...), mixed...), do(t, Add, l, m...)) {
			t.Fatalf("P10.3: %v, %v: cut and added again", l, m)
		}
	}
	// What was not there at all is gone again.
	l, m := spread(), list(of(1, 30, 40), of(3, 0, lastTime), of(98, 1, 2))
	if !slices.Equal(do(t, Cut, do(t, Add, l, m...), m...), l) {
		t.Errorf("P10.3: added and cut again, it is not what was there")
	}
}

// Very many windows are no more than one sort of them.
func TestMany(t *testing.T) {
	const n = 300000
	var m []api.Window
	for i := range n {
		k := n - 1 - i
		m = append(m, of(1+k%99, 3*k, 3*k+2))
	}
	if a, e := Add(spread(), m...); e != api.ErrFull || len(a) != 0 {
		t.Errorf("P10.1: Add of very many: %d windows, %d", len(a), e)
	}
	var wide []api.Window
	for bed := 1; bed <= 99; bed++ {
		wide = append(wide, of(bed, 0, lastTime))
	}
	if a, e := Add(spread(), append(m, wide...)...); e != api.OK || !slices.Equal(a, wide) {
		t.Errorf("P10.1: Add of very many and of all: %d windows, %d", len(a), e)
	}
	if c, e := Cut(wide, m...); e != api.ErrFull || len(c) != 0 {
		t.Errorf("P10.1: Cut of very many: %d windows, %d", len(c), e)
	}
	if c, e := Cut(comb(5, most), m...); e != api.OK || !Is(c) {
		t.Errorf("P10.1: Cut of very many: %d windows, %d", len(c), e)
	}
}

func TestMemory(t *testing.T) {
	bad := of(-7, -7, -7)
	roomy := func(l ...api.Window) []api.Window { return append(make([]api.Window, 0, 40), l...) }
	l, m := roomy(spread()...), roomy(of(2, 6, 8), of(1, 30, 40), of(1, 2, 3))
	wasL, wasM := slices.Clone(l[:cap(l)]), slices.Clone(m[:cap(m)])
	for name, call := range map[string]func() []api.Window{
		"Add":            func() []api.Window { x, _ := Add(l, m...); return x },
		"Add of nothing": func() []api.Window { x, _ := Add(l); return x },
		"Add to none":    func() []api.Window { x, _ := Add(nil, m[:1]...); return x },
		"Cut":            func() []api.Window { x, _ := Cut(l, m...); return x },
		"Cut of nothing": func() []api.Window { x, _ := Cut(l); return x },
	} {
		one, two := call(), call()
		if len(one) == 0 || !slices.Equal(one, two) {
			t.Errorf("R2: %s: %v, and then %v", name, one, two)
		}
		kept := slices.Clone(one)
		two = two[:cap(two)]
		for i := range two {
			two[i] = bad
		}
		if !slices.Equal(one, kept) || !slices.Equal(l[:cap(l)], wasL) || !slices.Equal(m[:cap(m)], wasM) {
			t.Errorf("R2: %s turns a list, or shares its memory", name)
		}
	}
	Is(l)
	Is(m)
	Till(m, 1, 2)
	Has(m, 1, 2)
	Total(l, 1)
	if !slices.Equal(l[:cap(l)], wasL) || !slices.Equal(m[:cap(m)], wasM) {
		t.Errorf("R2: the windows are turned")
	}
}
