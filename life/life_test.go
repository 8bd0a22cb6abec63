package life

import (
	"math"
	"slices"
	"testing"
)

// made are all the phases and deeds by which something is made, by the chapter's numbers.
var made = map[[2]int]int{
	{0, 1}: 1,
	{1, 1}: 1, {1, 2}: 2, {1, 3}: 3, {1, 4}: 4, {1, 5}: 0,
	{2, 1}: 2, {2, 3}: 3, {2, 4}: 4, {2, 5}: 0,
	{3, 1}: 1, {3, 4}: 4, {3, 5}: 0,
	{4, 1}: 4, {4, 3}: 3, {4, 5}: 0, {4, 6}: 1,
}

// noPhases are numbers of no phase: some would be one, were they cut to fewer bits.
var noPhases = []int{-1, -2, -4, -5, 5, 6, 7, 100, 255, 256, 257, 1 << 16, 1 << 31, 1 << 32, 1<<32 + 1, -1 << 32, math.MaxInt, math.MaxInt - 1, math.MinInt, math.MinInt + 1}

// noDeeds are numbers of no deed.
var noDeeds = []int{0, -1, -2, -5, -6, 7, 8, 100, 255, 256, 257, 1 << 16, 1 << 31, 1 << 32, 1<<32 + 1, -1 << 32, math.MaxInt, math.MaxInt - 1, math.MinInt, math.MinInt + 1, math.MinInt + 5}

// ways are all the ways, by hand.
var ways = [5][5][]int{
	{nil, {1}, {1, 2}, {1, 3}, {1, 4}},
	{{5}, nil, {2}, {3}, {4}},
	{{5}, {3, 1}, nil, {3}, {4}},
	{{5}, {1}, {1, 2}, nil, {4}},
	{{5}, {6}, {6, 2}, {3}, nil},
}

// rows are all rows of so many deeds, the least ones ahead.
func rows(long int) [][]int {
	l := [][]int{nil}
	for range long {
		var longer [][]int
		for _, r := range l {
			for d := 1; d <= 6; d++ {
				longer = append(longer, append(slices.Clone(r), d))
			}
		}
		l = longer
	}
	return l
}

// whole tells what a row of deeds makes of a phase, if each of them makes something.
func whole(phase int, row []int) (int, bool) {
	for _, d := range row {
		p, ok := made[[2]int{phase, d}]
		if !ok {
			return 0, false
		}
		phase = p
	}
	return phase, true
}

func TestNext(t *testing.T) {
	for phase := -10; phase <= 20; phase++ {
		for deed := -10; deed <= 20; deed++ {
			want, wantOK := made[[2]int{phase, deed}]
			if p, ok := Next(phase, deed); p != want || ok != wantOK {
				t.Errorf("P5.1: Next(%d, %d): %d, %t, not %d, %t", phase, deed, p, ok, want, wantOK)
			}
		}
	}
	for _, phase := range noPhases {
		for _, deed := range append([]int{1, 2, 3, 4, 5, 6}, noDeeds...) {
			if p, ok := Next(phase, deed); p != 0 || ok {
				t.Errorf("P5.1: Next(%d, %d): %d, %t", phase, deed, p, ok)
			}
		}
	}
	for phase := range 5 {
		for _, deed := range noDeeds {
			if p, ok := Next(phase, deed); p != 0 || ok {
				t.Errorf("P5.1: Next(%d, %d): %d, %t", phase, deed, p, ok)
			}
		}
	}
}

func TestRun(t *testing.T) {
	for _, x := range []struct {
		phase, want, made int
		deeds             []int
	}{
		{0, 0, 0, nil},
		{3, 3, 0, nil},
		{0, 1, 1, []int{1}},
		{0, 0, 0, []int{2, 3, 4, 5, 6}},
		{0, 1, 3, []int{1, 1, 1}},
		{0, 2, 3, []int{1, 2, 1}},
		{0, 0, 2, []int{1, 5, 5, 5}},
		{0, 1, 4, []int{5, 1, 6, 2, 2, 4, 6}},
		{1, 3, 1, []int{3, 3, 2, 6}},
		{1, 1, 3, []int{4, 1, 6}},
		{2, 1, 2, []int{3, 1}},
		{4, 4, 1, []int{4, 2, 1, 2, 4}},
		{1, 2, 1, []int{0, 7, -1, math.MinInt, 2, math.MaxInt, 1<<32 + 5}},
		{4, 0, 5, []int{6, 2, 4, 3, 5}},
	} {
		if p, n := Run(x.phase, x.deeds...); p != x.want || n != x.made {
			t.Errorf("P5.1: Run(%d, %v): %d, %d, not %d, %d", x.phase, x.deeds, p, n, x.want, x.made)
		}
	}
}

func TestRunOfNoPhase(t *testing.T) {
	for _, phase := range noPhases {
		for _, deeds := range [][]int{nil, {1}, {1, 5}, {6, 5, 4, 3, 2, 1}, noDeeds} {
			if p, n := Run(phase, deeds...); p != phase || n != 0 {
				t.Errorf("P5.1: Run(%d, %v): %d, %d", phase, deeds, p, n)
			}
		}
	}
}

func TestRunIsNextOneByOne(t *testing.T) {
	for phase := range 5 {
		for _, row := range rows(4) {
			want, n := phase, 0
			for _, d := range row {
				if p, ok := made[[2]int{want, d}]; ok {
					want = p
					n++
				}
			}
			if p, k := Run(phase, row...); p != want || k != n {
				t.Errorf("P5.1: Run(%d, %v): %d, %d, not %d, %d", phase, row, p, k, want, n)
			}
		}
	}
}

func TestRunOfManyDeeds(t *testing.T) {
	const times = 100000
	deeds := slices.Repeat([]int{1, 2, 6, 5}, times) // WAKE makes nothing of ESCALATED
	kept := slices.Clone(deeds)
	if p, n := Run(0, deeds...); p != 0 || n != 3*times {
		t.Errorf("P5.1: Run of many: %d, %d", p, n)
	}
	if !slices.Equal(deeds, kept) {
		t.Error("R2: Run turned what was handed in")
	}
}

func TestName(t *testing.T) {
	for phase, want := range []string{"quiet", "raised", "escalated", "acked", "silenced"} {
		if s, ok := Name(phase); s != want || !ok {
			t.Errorf("P5.1: Name(%d): %q, %t", phase, s, ok)
		}
	}
	for _, phase := range noPhases {
		if s, ok := Name(phase); s != "" || ok {
			t.Errorf("P5.1: Name(%d): %q, %t", phase, s, ok)
		}
	}
}

func TestReach(t *testing.T) {
	for phase := range 5 {
		if l := Reach(phase); !slices.Equal(l, []int{0, 1, 2, 3, 4}) {
			t.Errorf("P5.2: Reach(%d): %v", phase, l)
		}
	}
	for _, phase := range noPhases {
		if l := Reach(phase); len(l) != 0 {
			t.Errorf("P5.2: Reach(%d): %v", phase, l)
		}
	}
}

func TestWay(t *testing.T) {
	for from := range 5 {
		for to := range 5 {
			if l, ok := Way(from, to); !slices.Equal(l, ways[from][to]) || !ok {
				t.Errorf("P5.2: Way(%d, %d): %v, %t, not %v", from, to, l, ok, ways[from][to])
			}
		}
	}
}

func TestWayOfNoPhase(t *testing.T) {
	for _, no := range noPhases {
		for phase := range 5 {
			if l, ok := Way(no, phase); len(l) != 0 || ok {
				t.Errorf("P5.2: Way(%d, %d): %v, %t", no, phase, l, ok)
			}
			if l, ok := Way(phase, no); len(l) != 0 || ok {
				t.Errorf("P5.2: Way(%d, %d): %v, %t", phase, no, l, ok)
			}
		}
		for _, other := range noPhases {
			if l, ok := Way(no, other); len(l) != 0 || ok {
				t.Errorf("P5.2: Way(%d, %d): %v, %t", no, other, l, ok)
			}
		}
	}
}

// first is the first row, of the shortest and then of the least, that is made whole between two phases.
func first(from, to int) ([]int, bool) {
	for long := range 6 {
		for _, row := range rows(long) {
			if p, ok := whole(from, row); ok && p == to {
				return row, true
			}
		}
	}
	return nil, false
}

func TestWayIsTheFirstOfAllRows(t *testing.T) {
	for from := range 5 {
		for to := range 5 {
			want, found := first(from, to)
			if l, ok := Way(from, to); !slices.Equal(l, want) || ok != found {
				t.Errorf("P5.2: Way(%d, %d): %v, %t, not %v", from, to, l, ok, want)
			}
		}
	}
}

func TestEachReachesEachByThreeAtMost(t *testing.T) {
	for from := range 5 {
		for to := range 5 {
			l, ok := Way(from, to)
			if !ok || len(l) > 3 || !slices.Contains(Reach(from), to) {
				t.Errorf("P5.3: from %d to %d: %v, %t, of %v", from, to, l, ok, Reach(from))
			}
			if p, n := Run(from, l...); p != to || n != len(l) {
				t.Errorf("P5.3: Run(%d, %v): %d, %d, not %d", from, l, p, n, to)
			}
		}
	}
}

func TestClearMakesQuiet(t *testing.T) {
	for phase := range 5 {
		if p, ok := Next(phase, 5); p != 0 || ok != (phase != 0) {
			t.Errorf("P5.3: CLEAR of %d: %d, %t", phase, p, ok)
		}
	}
}

func TestWhatComesOutIsNew(t *testing.T) {
	reach, otherReach := Reach(2), Reach(2)
	way, _ := Way(0, 2)
	otherWay, _ := Way(0, 2)
	for i := range reach {
		reach[i] = 77
	}
	for i := range way {
		way[i] = 77
	}
	laterWay, _ := Way(0, 2)
	for _, l := range [][]int{otherReach, Reach(2)} {
		if !slices.Equal(l, []int{0, 1, 2, 3, 4}) {
			t.Errorf("R2: Reach shares its list: %v", l)
		}
	}
	for _, l := range [][]int{otherWay, laterWay} {
		if !slices.Equal(l, []int{1, 2}) {
			t.Errorf("R2: Way shares its list: %v", l)
		}
	}
}
