package rank

import (
	"math"
	"math/rand"
	"slices"
	"testing"

	"watchman/api"
)

// one is an alarm at bed 1, channel 0.
func one(phase, prio, since, until int) api.Alarm {
	return at(1, 0, phase, prio, since, until)
}

func at(bed, channel, phase, prio, since, until int) api.Alarm {
	return api.Alarm{Spot: api.Spot{Bed: bed, Channel: channel}, Phase: phase, Prio: prio, Since: since, Until: until}
}

// rising are alarms as they are ranked, by hand: each is ahead of all behind it.
func rising() []api.Alarm {
	return []api.Alarm{
		// ESCALATED: however little its priority presses, it is ahead of all others.
		one(2, math.MinInt, 9, 9),
		one(2, -1, 9, 9),
		one(2, 1, 5, 15),
		one(2, 3, 9, 9),
		one(2, math.MaxInt, math.MaxInt, math.MaxInt),
		// RAISED: by Prio first, then Since, Until, and the spot.
		one(1, math.MinInt, 0, 0),
		one(1, math.MinInt+1, 0, 0),
		one(1, 0, 0, 0),
		at(9, 7, 1, 1, math.MinInt, 900),
		at(9, 7, 1, 1, 4, 900),
		at(9, 7, 1, 1, 5, math.MinInt),
		at(9, 7, 1, 1, 5, 14),
		at(math.MinInt, 7, 1, 1, 5, 15),
		at(-1, 7, 1, 1, 5, 15),
		at(1, math.MinInt, 1, 1, 5, 15),
		at(1, -1, 1, 1, 5, 15),
		at(1, 0, 1, 1, 5, 15),
		at(1, 7, 1, 1, 5, 15),
		at(1, math.MaxInt, 1, 1, 5, 15),
		at(2, 0, 1, 1, 5, 15),
		at(9, 7, 1, 1, 5, 15),
		at(10, 0, 1, 1, 5, 15),
		at(math.MaxInt, 0, 1, 1, 5, 15),
		one(1, 1, 5, 16),
		one(1, 1, 5, math.MaxInt),
		one(1, 1, 6, 7),
		one(1, 1, math.MaxInt, 7),
		one(1, 2, 1, 31),
		one(1, 3, 0, 90),
		one(1, math.MaxInt, 0, 0),
		// SILENCED, and then ACKED.
		one(4, 1, 0, 9),
		one(4, 1, 0, 10),
		one(4, 3, 0, 0),
		one(3, 1, 0, 0),
		one(3, 3, 0, 0),
		// Others press alike: their phases count only behind Prio, Since and Until, and ahead of the spot.
		one(5, math.MinInt, 9, 9),
		one(math.MaxInt, -1, 0, 0),
		at(99, 7, math.MinInt, 0, 0, 0),
		at(99, 7, math.MinInt+2, 0, 0, 0),
		at(99, 7, -2, 0, 0, 0),
		at(3, 1, -1, 0, 0, 0),
		at(1, 0, 0, 0, 0, 0),
		at(1, 1, 0, 0, 0, 0),
		at(2, 0, 0, 0, 0, 0),
		at(1, 0, 5, 0, 0, 0),
		at(0, 0, 6, 0, 0, 0),
		at(0, 0, 256+2, 0, 0, 0),
		at(0, 0, 1<<32+2, 0, 0, 0),
		at(0, 0, math.MaxInt, 0, 0, 0),
		one(0, 0, 0, 1),
		one(-5, 0, 1, 0),
		one(-7, 1, 0, 0),
		one(0, 2, 0, 0),
		one(-9, math.MaxInt, math.MinInt, math.MinInt),
	}
}

// numbers are those by which an alarm is ranked, as the chapter names them.
func numbers(a api.Alarm) [7]int {
	press := map[int]int{2: 0, 1: 1, 4: 2, 3: 3}
	p, ok := press[a.Phase]
	if !ok {
		p = 4
	}
	return [7]int{p, a.Prio, a.Since, a.Until, a.Phase, a.Spot.Bed, a.Spot.Channel}
}

// byHand tells what Compare should.
func byHand(a, b api.Alarm) int {
	x, y := numbers(a), numbers(b)
	for i := range x {
		if x[i] < y[i] {
			return -1
		}
		if x[i] > y[i] {
			return 1
		}
	}
	return 0
}

// sortedByHand puts each alarm behind all that are not ranked behind it.
func sortedByHand(l []api.Alarm) []api.Alarm {
	var s []api.Alarm
	for _, a := range l {
		i := 0
		for i < len(s) && byHand(s[i], a) <= 0 {
			i++
		}
		s = slices.Insert(s, i, a)
	}
	return s
}

// mixed are lists of alarms of which many share some fields, or all.
func mixed() [][]api.Alarm {
	r := rand.New(rand.NewSource(7))
	all := [][]api.Alarm{nil, {}, {{}}, {{}, {}}}
	for n := range 60 {
		var l []api.Alarm
		for range n {
			l = append(l, at(1+r.Intn(3), r.Intn(2), r.Intn(7)-1, 1+r.Intn(2), r.Intn(2), r.Intn(3)))
		}
		all = append(all, l)
	}
	return all
}

// counts tells how often each alarm is there.
func counts(l []api.Alarm) map[api.Alarm]int {
	m := map[api.Alarm]int{}
	for _, a := range l {
		m[a]++
	}
	return m
}

// turned has l from k on, and then what is ahead of k.
func turned(l []api.Alarm, k int) []api.Alarm {
	return append(slices.Clone(l[k:]), l[:k]...)
}

func TestCompare(t *testing.T) {
	l := rising()
	for i, a := range l {
		for k, b := range l {
			want := 0
			if i < k {
				want = -1
			}
			if i > k {
				want = 1
			}
			if n := Compare(a, b); n != want {
				t.Errorf("P7.1: Compare(%+v, %+v): %d, not %d", a, b, n, want)
			}
		}
	}
}

// TestCompareByEachNumber makes one number of an alarm lesser, and all behind it greater.
func TestCompareByEachNumber(t *testing.T) {
	ofPress := func(x [7]int) api.Alarm {
		return at(x[5], x[6], []int{2, 1, 4, 3, 0}[x[0]], x[1], x[2], x[3])
	}
	ofPhase := func(x [7]int) api.Alarm {
		return at(x[5], x[6], 9+x[4], x[1], x[2], x[3])
	}
	for _, kind := range []struct {
		lay func(x [7]int) api.Alarm
		by  []int
	}{
		{ofPress, []int{0, 1, 2, 3, 5, 6}}, // the press of these tells their phase
		{ofPhase, []int{1, 2, 3, 4, 5, 6}}, // all of these press alike
	} {
		for _, i := range kind.by {
			low, high := [7]int{2, 2, 2, 2, 2, 2, 2}, [7]int{2, 2, 2, 2, 2, 2, 2}
			low[i], high[i] = 1, 3
			for k := i + 1; k < 7; k++ {
				low[k], high[k] = 3, 1
			}
			a, b := kind.lay(low), kind.lay(high)
			if Compare(a, b) != -1 || Compare(b, a) != 1 || Compare(a, a) != 0 || Compare(b, b) != 0 {
				t.Errorf("P7.1: number %d: %+v, %+v: %d, %d", i, a, b, Compare(a, b), Compare(b, a))
			}
		}
	}
}

func TestSort(t *testing.T) {
	want := rising()
	for k := range want {
		l := turned(want, k)
		if s := Sort(l); !slices.Equal(s, want) {
			t.Errorf("P7.1: Sort, turned by %d: %v", k, s)
		}
		slices.Reverse(l)
		if s := Sort(l); !slices.Equal(s, want) {
			t.Errorf("P7.1: Sort, turned by %d and reversed: %v", k, s)
		}
	}
	if s := Sort(nil); len(s) != 0 {
		t.Errorf("P7.1: Sort of nothing: %v", s)
	}
}

func TestSortOfTheExample(t *testing.T) {
	l := []api.Alarm{one(1, 1, 5, 0), one(3, 1, 0, 0), one(2, 3, 9, 0), one(1, 2, 1, 0)}
	if s := Sort(l); !slices.Equal(s, []api.Alarm{l[2], l[0], l[3], l[1]}) {
		t.Errorf("P7.1: %v", s)
	}
}

func TestSortOfMixed(t *testing.T) {
	for _, l := range mixed() {
		if s := Sort(l); !slices.Equal(s, sortedByHand(l)) {
			t.Errorf("P7.1: Sort(%v): %v", l, s)
		}
	}
}

func TestTop(t *testing.T) {
	want := rising()
	l := turned(want, 17)
	for n := 1; n <= len(l); n++ {
		if s := Top(n, l...); !slices.Equal(s, want[:n]) {
			t.Errorf("P7.1: Top(%d): %v", n, s)
		}
	}
	for _, n := range []int{len(l) + 1, len(l) + 2, 1 << 31, 1 << 32, 1<<32 + 1, math.MaxInt} {
		if s := Top(n, l...); !slices.Equal(s, want) {
			t.Errorf("P7.1: Top(%d): %v", n, s)
		}
		if s := Top(n); len(s) != 0 {
			t.Errorf("P7.1: Top(%d) of nothing: %v", n, s)
		}
	}
	for _, n := range []int{0, -1, -2, -len(l), -1 << 32, 1 - 1<<32, math.MinInt, math.MinInt + 1} {
		if s := Top(n, l...); len(s) != 0 {
			t.Errorf("P7.1: Top(%d): %v", n, s)
		}
		if s := Top(n); len(s) != 0 {
			t.Errorf("P7.1: Top(%d) of nothing: %v", n, s)
		}
	}
}

func TestPlace(t *testing.T) {
	l := []api.Alarm{
		at(3, 1, 3, 1, 0, 0),   // 5
		at(1, 0, 4, 1, 0, 5),   // 4
		at(2, 0, 1, 2, 0, 30),  // 2
		at(2, 1, 1, 3, 0, 90),  // 3
		at(3, 1, 2, 3, 0, 90),  // 0
		at(2, 0, 1, 1, 7, 17),  // 1
		at(0, -1, 0, 0, 0, 0),  // 6, at a spot that may not be
		at(100, 9, 7, 0, 0, 1), // 7, likewise
	}
	for _, x := range []struct {
		s     api.Spot
		place int
		ok    bool
	}{
		{api.Spot{Bed: 3, Channel: 1}, 0, true},
		{api.Spot{Bed: 2, Channel: 0}, 1, true},
		{api.Spot{Bed: 2, Channel: 1}, 3, true},
		{api.Spot{Bed: 1, Channel: 0}, 4, true},
		{api.Spot{Bed: 0, Channel: -1}, 6, true},
		{api.Spot{Bed: 100, Channel: 9}, 7, true},
		{api.Spot{Bed: 1, Channel: 1}, 0, false},
		{api.Spot{Bed: 3, Channel: 0}, 0, false},
		{api.Spot{Bed: 4, Channel: 1}, 0, false},
		{api.Spot{}, 0, false},
		{api.Spot{Bed: 256 + 3, Channel: 1}, 0, false},
		{api.Spot{Bed: 1<<32 + 3, Channel: 1}, 0, false},
		{api.Spot{Bed: 3, Channel: 1<<32 + 1}, 0, false},
		{api.Spot{Bed: math.MinInt, Channel: math.MaxInt}, 0, false},
	} {
		for k := range l {
			if n, ok := Place(turned(l, k), x.s); n != x.place || ok != x.ok {
				t.Errorf("P7.2: Place, turned by %d, of %v: %d, %v, not %d, %v", k, x.s, n, ok, x.place, x.ok)
			}
		}
		if n, ok := Place(nil, x.s); n != 0 || ok {
			t.Errorf("P7.2: Place in nothing of %v: %d, %v", x.s, n, ok)
		}
	}
}

func TestPlaceOfMixed(t *testing.T) {
	for _, l := range mixed() {
		sorted := sortedByHand(l)
		for bed := 0; bed <= 4; bed++ {
			for channel := -1; channel <= 2; channel++ {
				s := api.Spot{Bed: bed, Channel: channel}
				want := slices.IndexFunc(sorted, func(a api.Alarm) bool { return a.Spot == s })
				n, ok := Place(l, s)
				if ok != (want >= 0) || n != max(want, 0) {
					t.Errorf("P7.2: Place(%v, %v): %d, %v, not %d", l, s, n, ok, want)
				}
			}
		}
	}
}

func TestMerge(t *testing.T) {
	want := rising()
	for k := range len(want) + 1 {
		l := turned(want, 11)
		for _, m := range [][]api.Alarm{Merge(l[:k], l[k:]), Merge(l[k:], l[:k])} {
			if !slices.Equal(m, want) {
				t.Errorf("P7.2: Merge, cut at %d: %v", k, m)
			}
		}
	}
	if m := Merge(nil, nil); len(m) != 0 {
		t.Errorf("P7.2: Merge of nothing: %v", m)
	}
}

func TestMergeOfMixed(t *testing.T) {
	for _, a := range mixed() {
		for _, b := range mixed() {
			both := append(slices.Clone(a), b...)
			if m := Merge(a, b); !slices.Equal(m, Sort(both)) || !slices.Equal(m, sortedByHand(both)) {
				t.Errorf("P7.2: Merge(%v, %v): %v", a, b, m)
			}
		}
	}
}

func TestOnlyTheSameAreAlike(t *testing.T) {
	for _, a := range append(mixed(), rising()) {
		for _, x := range a {
			for _, y := range a {
				n := Compare(x, y)
				if (n == 0) != (x == y) || n != -Compare(y, x) || n != byHand(x, y) {
					t.Errorf("P7.3: Compare(%+v, %+v): %d, %d", x, y, n, Compare(y, x))
				}
			}
		}
	}
}

func TestSortedHasTheSame(t *testing.T) {
	for _, l := range append(mixed(), rising(), append(rising(), rising()...)) {
		s := Sort(l)
		was, is := counts(l), counts(s)
		if len(s) != len(l) || len(was) != len(is) {
			t.Errorf("P7.3: Sort(%v): %v", l, s)
		}
		for a, n := range was {
			if is[a] != n {
				t.Errorf("P7.3: Sort has %+v %d times, not %d", a, is[a], n)
			}
		}
		if again := Sort(s); !slices.Equal(again, s) {
			t.Errorf("P7.3: Sort of Sort of %v: %v", l, again)
		}
	}
}

func TestTopOfTop(t *testing.T) {
	for _, l := range mixed() {
		for m := -1; m <= len(l)+1; m++ {
			top := Top(m, l...)
			for n := -1; n <= len(l)+1; n++ {
				if s := Top(n, top...); !slices.Equal(s, Top(min(m, n), l...)) {
					t.Errorf("P7.3: Top(%d) of Top(%d) of %v: %v", n, m, l, s)
				}
			}
		}
	}
}

func TestTopOfBothIsOfTheirTops(t *testing.T) {
	all := mixed()
	for i, a := range all {
		b := all[(i*7+3)%len(all)]
		both := append(slices.Clone(a), b...)
		for n := -1; n <= len(both)+1; n++ {
			want := Top(n, both...)
			if s := Top(n, Merge(Top(n, a...), Top(n, b...))...); !slices.Equal(s, want) {
				t.Errorf("P7.3: Top(%d) of the tops of %v and %v: %v, not %v", n, a, b, s, want)
			}
		}
	}
}

func TestListsAreNew(t *testing.T) {
	l := turned(rising(), 20)
	was := slices.Clone(l)
	place := func(l []api.Alarm) []api.Alarm {
		Place(l, l[3].Spot)
		return nil
	}
	for name, do := range map[string]func(l []api.Alarm) []api.Alarm{
		"Sort":          Sort,
		"Top":           func(l []api.Alarm) []api.Alarm { return Top(5, l...) },
		"Top of all":    func(l []api.Alarm) []api.Alarm { return Top(len(l), l...) },
		"Place":         place,
		"Merge":         func(l []api.Alarm) []api.Alarm { return Merge(l[:4], l[4:]) },
		"Merge, one":    func(l []api.Alarm) []api.Alarm { return Merge(l, nil) },
		"Merge, other":  func(l []api.Alarm) []api.Alarm { return Merge(nil, l) },
		"Merge, halves": func(l []api.Alarm) []api.Alarm { return Merge(l[:9], l[:9]) },
		"Sort, sorted":  func(l []api.Alarm) []api.Alarm { return Sort(l[:1]) },
	} {
		a := do(l)
		b := do(l)
		kept := slices.Clone(b)
		for i := range a[:cap(a)] {
			a[:cap(a)][i] = api.Alarm{Prio: -77}
		}
		if !slices.Equal(l, was) || !slices.Equal(b, kept) {
			t.Errorf("R2: %s shares memory, or changes its list", name)
		}
	}
}

func TestOfMany(t *testing.T) {
	r := rand.New(rand.NewSource(3))
	var l []api.Alarm
	for range 200000 {
		l = append(l, at(1+r.Intn(99), r.Intn(8), 1+r.Intn(4), 1+r.Intn(3), r.Intn(50), r.Intn(50)))
	}
	s := Sort(l)
	if len(s) != len(l) || !slices.IsSortedFunc(s, byHand) {
		t.Errorf("P7.1: Sort of %d: %d", len(l), len(s))
	}
	if again := Sort(s); !slices.Equal(again, s) {
		t.Error("P7.3: what is sorted is sorted otherwise")
	}
}
