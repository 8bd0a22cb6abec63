package due

import (
	"math"
	"math/rand"
	"slices"
	"testing"

	"watchman/api"
	"watchman/board"
)

const (
	lastTime = 1000000000
	latest   = 1000002000
)

// noTimes are numbers that are no time: some would be one, were they cut to fewer bits.
var noTimes = []int{-1, -2, -100, lastTime + 1, lastTime + 2, latest, 1 << 31, 1 << 32, 1<<32 + 100, -1 << 32, math.MaxInt, math.MinInt}

// noPhases are numbers of phases that don't wait, and of none.
var noPhases = []int{0, 2, 3, 5, 6, -1, -4, 1<<32 + 1, 1<<32 + 4, math.MaxInt, math.MinInt}

func spotOf(bed, channel int) api.Spot { return api.Spot{Bed: bed, Channel: channel} }

func at(bed, channel, phase, prio, since, until int) api.Alarm {
	return api.Alarm{Spot: spotOf(bed, channel), Phase: phase, Prio: prio, Since: since, Until: until}
}

func turn(at, bed, channel, phase int) api.Turn {
	return api.Turn{At: at, Spot: spotOf(bed, channel), Phase: phase}
}

func boardOf(now int, l ...api.Alarm) api.Board {
	return api.Board{Most: 200, Now: now, Alarms: l}
}

// example is the chapter's board.
func example() api.Board {
	return boardOf(0, at(1, 0, 1, 2, 0, 30), at(2, 0, 4, 1, 0, 5))
}

// spread is a board of alarms of each phase and priority.
func spread() api.Board {
	return boardOf(100,
		at(1, 0, 1, 1, 90, 101),
		at(1, 7, 2, 3, 0, 0),
		at(2, 0, 3, 2, 50, 60),
		at(2, 1, 4, 1, 50, 110),
		at(9, 7, 4, 3, 99, 100),
		at(10, 0, 1, 2, 100, 130),
		at(10, 1, 4, 2, 0, 40),
		at(50, 4, 1, 1, 20, 99),
		at(98, 7, 1, 3, 100, 190),
		at(99, 7, 4, 2, 100, latest),
	)
}

// spreadTurns are all that time makes of spread, in order, by hand.
func spreadTurns() []api.Turn {
	return []api.Turn{
		turn(40, 10, 1, 1),
		turn(70, 10, 1, 2),
		turn(99, 50, 4, 2),
		turn(100, 9, 7, 1),
		turn(101, 1, 0, 2),
		turn(110, 2, 1, 1),
		turn(120, 2, 1, 2),
		turn(130, 10, 0, 2),
		turn(190, 9, 7, 2),
		turn(190, 98, 7, 2),
	}
}

// atEnd is a board at the last time, of alarms that time turns just then, or never.
func atEnd() api.Board {
	return boardOf(lastTime,
		at(1, 0, 1, 1, 5, lastTime),
		at(1, 1, 1, 1, 5, lastTime+1),
		at(1, 2, 4, 3, 5, lastTime),
		at(1, 3, 4, 3, lastTime, lastTime+1),
		at(1, 4, 4, 1, 5, lastTime-10),
		at(1, 5, 4, 1, 5, lastTime-9),
		at(1, 6, 4, 2, 5, lastTime-30),
		at(1, 7, 4, 3, 5, lastTime-90),
		at(2, 0, 4, 3, 5, latest),
		at(2, 1, 1, 3, 5, latest),
	)
}

func atEndTurns() []api.Turn {
	return []api.Turn{
		turn(lastTime-90, 1, 7, 1),
		turn(lastTime-30, 1, 6, 1),
		turn(lastTime-10, 1, 4, 1),
		turn(lastTime-9, 1, 5, 1),
		turn(lastTime, 1, 0, 2),
		turn(lastTime, 1, 2, 1),
		turn(lastTime, 1, 4, 2),
		turn(lastTime, 1, 6, 2),
		turn(lastTime, 1, 7, 2),
	}
}

// right are boards that are.
func right() []api.Board {
	l := []api.Board{
		{Most: 1},
		{Most: 200, Now: lastTime, Alarms: []api.Alarm{}},
		{Most: 1, Alarms: []api.Alarm{at(1, 0, 1, 1, 0, 0)}},
		{Most: 1, Alarms: []api.Alarm{at(1, 0, 4, 1, 0, 0)}},
		{Most: 1, Alarms: []api.Alarm{at(99, 7, 4, 3, 0, latest)}},
		boardOf(7, at(3, 3, 3, 3, 0, 5), at(4, 4, 2, 1, 7, 7)),
		example(), spread(), atEnd(),
	}
	var many []api.Alarm
	for i := range 200 {
		many = append(many, at(1+i/8, i%8, 1+i*7%4, 1+i%3, i%5, 5+i*13%60))
	}
	return append(l, boardOf(20, many...))
}

// wrong are boards that are not right: each has one fault.
func wrong() []api.Board {
	a, b := at(1, 0, 1, 1, 5, 15), at(1, 1, 4, 2, 5, 35)
	l := []api.Board{
		{},
		{Most: 1, Now: 10, Alarms: []api.Alarm{a, b}},
		{Most: 0, Now: 10},
		{Most: 201, Now: 10, Alarms: []api.Alarm{a}},
		{Most: math.MinInt, Now: 10},
		boardOf(10, b, a),
		boardOf(10, a, a),
		boardOf(4, a),
		boardOf(10, a, api.Alarm{}),
		boardOf(10, api.Alarm{}),
		boardOf(10, at(0, 0, 1, 1, 5, 15)),
		boardOf(10, at(100, 0, 1, 1, 5, 15)),
		boardOf(10, at(1, 8, 1, 1, 5, 15)),
		boardOf(10, at(1, 0, 0, 1, 5, 15)),
		boardOf(10, at(1, 0, 5, 1, 5, 15)),
		boardOf(10, at(1, 0, 1, 0, 5, 15)),
		boardOf(10, at(1, 0, 4, 4, 5, 15)),
		boardOf(10, at(1, 0, 1, 1, -1, 15)),
		boardOf(10, at(1, 0, 1, 1, 5, 4)),
		boardOf(10, at(1, 0, 4, 1, 5, latest+1)),
		boardOf(10, at(1, 0, 4, 1, 5, math.MaxInt)),
		boardOf(10, at(1, 0, 1, 1, 5, math.MinInt)),
	}
	for _, n := range noTimes {
		l = append(l, boardOf(n), boardOf(n, at(1, 0, 1, 1, 0, 0)))
	}
	return l
}

func TestExample(t *testing.T) {
	b := example()
	if n, ok := Next(b); n != 5 || !ok {
		t.Errorf("P9.1: Next: %d, %t", n, ok)
	}
	l, e := Turns(b, 30)
	if e != api.OK || !slices.Equal(l, []api.Turn{turn(5, 2, 0, 1), turn(15, 2, 0, 2), turn(30, 1, 0, 2)}) {
		t.Errorf("P9.2: Turns till 30: %v, %d", l, e)
	}
}

func TestFirst(t *testing.T) {
	// Each is ahead of all behind it.
	rising := []api.Alarm{
		at(5, 5, 1, 1, 0, math.MinInt),
		at(5, 5, 4, 1, 0, math.MinInt+1),
		at(9, 9, 1, 3, 9, -1),
		at(9, 9, 4, 0, 9, 0),
		at(9, 9, 1, 3, 9, 4),
		at(math.MinInt, 7, 4, 1, 0, 5),
		at(-1, 7, 1, 1, 0, 5),
		at(0, 0, 4, 1, 0, 5),
		at(1, math.MinInt, 1, 3, 9, 5),
		at(1, -1, 1, 3, 9, 5),
		at(1, 0, 4, 3, 9, 5),
		at(1, 7, 1, 2, 9, 5),
		at(2, 0, 4, 2, 7, 5),
		at(9, 0, 1, 1, 7, 5),
		at(10, 0, 1, 1, 0, 5),
		at(math.MaxInt, 0, 1, 1, 0, 5),
		at(math.MaxInt, math.MaxInt, 1, 1, 0, 5),
		at(1, 0, 1, 1, 0, 6),
		at(1, 0, 4, 1, 0, 1<<32),
		at(1, 0, 4, 1, 0, 1<<32+5),
		at(1, 0, 4, 1, 0, math.MaxInt),
	}
	for i, a := range rising {
		if x, ok := First(a); x != a || !ok {
			t.Errorf("P9.1: First of %v alone: %v, %t", a, x, ok)
		}
		for _, b := range rising[i+1:] {
			for k, l := range [][]api.Alarm{{a, b}, {b, a}, {b, b, a}, {b, a, b}, {a, b, a}} {
				if x, ok := First(l...); x != a || !ok {
					t.Errorf("P9.1: First %d of %v and %v: %v, %t", k, a, b, x, ok)
				}
			}
		}
	}
	r := rand.New(rand.NewSource(9))
	for range 50 {
		l := slices.Clone(rising)
		r.Shuffle(len(l), func(i, j int) { l[i], l[j] = l[j], l[i] })
		if x, ok := First(l...); x != rising[0] || !ok {
			t.Errorf("P9.1: First of %v: %v, %t", l, x, ok)
		}
	}
}

// Of those with one Until at one spot it is the first that is told, whatever else they have.
func TestFirstOfAlike(t *testing.T) {
	alike := []api.Alarm{at(1, 0, 1, 1, 0, 5), at(1, 0, 4, 1, 0, 5), at(1, 0, 1, 3, 0, 5), at(1, 0, 1, 1, 4, 5), at(1, 0, 4, -9, -9, 5)}
	for i, a := range alike {
		for j, b := range alike {
			if x, ok := First(at(1, 0, 2, 1, 0, 5), at(1, 0, 1, 1, 0, 6), a, b, alike[0]); x != a || !ok {
				t.Errorf("P9.1: First of the alike ones %d and %d: %v, %t", i, j, x, ok)
			}
		}
	}
}

func TestFirstOfThoseThatWait(t *testing.T) {
	if x, ok := First(); x != (api.Alarm{}) || ok {
		t.Errorf("P9.1: First of none: %v, %t", x, ok)
	}
	a := at(3, 3, 1, 2, 7, 9)
	var none []api.Alarm
	for _, p := range noPhases {
		x := at(1, 0, p, 1, 0, math.MinInt)
		none = append(none, x, at(1, 0, p, 1, 0, 8))
		if y, ok := First(x); y != (api.Alarm{}) || ok {
			t.Errorf("P9.1: First of one of the phase %d: %v, %t", p, y, ok)
		}
		if y, ok := First(x, a, x); y != a || !ok {
			t.Errorf("P9.1: First beside one of the phase %d: %v, %t", p, y, ok)
		}
		if n, ok := Next(boardOf(0, x)); n != 0 || ok {
			t.Errorf("P9.1: Next of one of the phase %d: %d, %t", p, n, ok)
		}
	}
	if x, ok := First(none...); x != (api.Alarm{}) || ok {
		t.Errorf("P9.1: First of many that don't wait: %v, %t", x, ok)
	}
}

func TestNext(t *testing.T) {
	for i, c := range []struct {
		b  api.Board
		n  int
		ok bool
	}{
		{api.Board{}, 0, false},
		{boardOf(7), 0, false},
		{boardOf(7, at(3, 3, 3, 3, 0, 5), at(4, 4, 2, 1, 7, 7)), 0, false},
		{boardOf(0, at(1, 0, 1, 1, 0, 0)), 0, true},
		{boardOf(0, at(1, 0, 4, 1, 0, 0)), 0, true},
		{spread(), 40, true},
		{atEnd(), lastTime - 90, true},
		{boardOf(0, at(1, 0, 4, 1, 0, latest)), latest, true},
		// Boards that are not right are asked alike.
		{api.Board{Most: -1, Now: -5, Alarms: []api.Alarm{at(2, 0, 4, 9, 9, 3), at(1, 0, 1, 9, 9, -3)}}, -3, true},
		{api.Board{Alarms: []api.Alarm{at(0, 0, 1, 0, 0, math.MaxInt)}}, math.MaxInt, true},
		{api.Board{Alarms: []api.Alarm{at(0, 0, 4, 0, 0, math.MinInt)}}, math.MinInt, true},
	} {
		if n, ok := Next(c.b); n != c.n || ok != c.ok {
			t.Errorf("P9.1: Next %d: %d, %t", i, n, ok)
		}
	}
}

func TestOrder(t *testing.T) {
	rising := []api.Turn{
		turn(math.MinInt, 9, 9, 9),
		turn(-1, 9, 9, 9),
		turn(0, 9, 9, 9),
		turn(5, math.MinInt, 9, 9),
		turn(5, -1, 9, 9),
		turn(5, 1, math.MinInt, 9),
		turn(5, 1, -1, 9),
		turn(5, 1, 0, math.MinInt),
		turn(5, 1, 0, -1),
		turn(5, 1, 0, 1),
		turn(5, 1, 0, 1),
		turn(5, 1, 0, 2),
		turn(5, 1, 0, math.MaxInt),
		turn(5, 1, 7, 1),
		turn(5, 1, math.MaxInt, 0),
		turn(5, 2, 0, 1),
		turn(5, 10, 0, 1),
		turn(5, math.MaxInt, 0, 0),
		turn(6, 1, 0, 0),
		turn(1<<32, 0, 0, 0),
		turn(1<<32+5, 0, 0, 0),
		turn(math.MaxInt, 0, 0, 0),
	}
	for i, x := range rising {
		for _, y := range rising[i:] {
			if l := Order([]api.Turn{y, x}); !slices.Equal(l, []api.Turn{x, y}) {
				t.Errorf("P9.1: Order of %v, %v: %v", y, x, l)
			}
			if l := Order([]api.Turn{x, y}); !slices.Equal(l, []api.Turn{x, y}) {
				t.Errorf("P9.1: Order of %v, %v: %v", x, y, l)
			}
		}
	}
	r := rand.New(rand.NewSource(9))
	for range 50 {
		l := slices.Clone(rising)
		r.Shuffle(len(l), func(i, j int) { l[i], l[j] = l[j], l[i] })
		if got := Order(l); !slices.Equal(got, rising) {
			t.Errorf("P9.1: Order of %v: %v", l, got)
		}
	}
	if l := Order(nil); len(l) != 0 {
		t.Errorf("P9.1: Order of none: %v", l)
	}
	if l := Order([]api.Turn{}); len(l) != 0 {
		t.Errorf("P9.1: Order of none: %v", l)
	}
}

// till are those of turns in order that are not later than a time.
func till(l []api.Turn, at int) []api.Turn {
	n := 0
	for n < len(l) && l[n].At <= at {
		n++
	}
	return l[:n]
}

func TestTurns(t *testing.T) {
	for _, p := range []int{100, 101, 109, 110, 119, 120, 129, 130, 189, 190, 191, lastTime} {
		l, e := Turns(spread(), p)
		if e != api.OK || !slices.Equal(l, till(spreadTurns(), p)) {
			t.Errorf("P9.2: Turns till %d: %v, %d", p, l, e)
		}
	}
	for _, p := range []int{0, 4, 5, 14, 15, 29, 30, 31} {
		l, e := Turns(example(), p)
		if e != api.OK || !slices.Equal(l, till([]api.Turn{turn(5, 2, 0, 1), turn(15, 2, 0, 2), turn(30, 1, 0, 2)}, p)) {
			t.Errorf("P9.2: Turns till %d: %v, %d", p, l, e)
		}
	}
	if l, e := Turns(atEnd(), lastTime); e != api.OK || !slices.Equal(l, atEndTurns()) {
		t.Errorf("P9.2: Turns till the last time: %v, %d", l, e)
	}
	// Until may be as early as Since, and 0.
	for phase, want := range map[int][]api.Turn{1: {turn(0, 1, 0, 2)}, 2: nil, 3: nil, 4: {turn(0, 1, 0, 1)}} {
		if l, e := Turns(boardOf(0, at(1, 0, phase, 1, 0, 0)), 0); e != api.OK || !slices.Equal(l, want) {
			t.Errorf("P9.2: Turns till 0 of the phase %d: %v, %d", phase, l, e)
		}
	}
	if l, e := Turns(boardOf(7), lastTime); e != api.OK || len(l) != 0 {
		t.Errorf("P9.2: Turns of no alarm: %v, %d", l, e)
	}
}

// turnsByHand goes through all alarms by the promise's words, with waits of its own.
func turnsByHand(b api.Board, at int) []api.Turn {
	waits := []int{0, 10, 30, 90}
	var all []api.Turn
	for _, a := range b.Alarms {
		if a.Phase == 4 && a.Until <= at {
			all = append(all, api.Turn{At: a.Until, Spot: a.Spot, Phase: 1})
			a.Phase, a.Until = 1, a.Until+waits[a.Prio]
		}
		if a.Phase == 1 && a.Until <= at {
			all = append(all, api.Turn{At: a.Until, Spot: a.Spot, Phase: 2})
		}
	}
	slices.SortFunc(all, func(x, y api.Turn) int {
		for _, d := range []int{x.At - y.At, x.Spot.Bed - y.Spot.Bed, x.Spot.Channel - y.Spot.Channel, x.Phase - y.Phase} {
			if d != 0 {
				return d
			}
		}
		return 0
	})
	return all
}

func TestTurnsByHand(t *testing.T) {
	for i, b := range right() {
		for p := range 200 {
			for _, q := range []int{b.Now + p, lastTime - p} {
				if q < b.Now || q > lastTime {
					continue
				}
				l, e := Turns(b, q)
				if want := turnsByHand(b, q); e != api.OK || !slices.Equal(l, want) {
					t.Fatalf("P9.2: board %d: Turns till %d: %v, %d, want %v", i, q, l, e, want)
				}
			}
		}
	}
}

func TestTurnsWrong(t *testing.T) {
	for i, b := range wrong() {
		for _, p := range []int{0, 5, 10, 100, lastTime, -1} {
			if l, e := Turns(b, p); e != api.ErrArg || len(l) != 0 {
				t.Errorf("P9.2: Turns of the wrong board %d till %d: %v, %d", i, p, l, e)
			}
		}
	}
	for i, b := range right() {
		// A time that is none is told as that, though it may be below Now as well.
		for _, p := range noTimes {
			if l, e := Turns(b, p); e != api.ErrArg || len(l) != 0 {
				t.Errorf("P9.2: board %d: Turns till %d: %v, %d", i, p, l, e)
			}
		}
		for _, p := range []int{0, 6, 19, 40, 99, lastTime - 90, lastTime - 1} {
			if p >= b.Now {
				continue
			}
			if l, e := Turns(b, p); e != api.ErrPast || len(l) != 0 {
				t.Errorf("P9.2: board %d: Turns till %d: %v, %d", i, p, l, e)
			}
		}
		if _, e := Turns(b, b.Now); e != api.OK {
			t.Errorf("P9.2: board %d: Turns till now: %d", i, e)
		}
	}
}

func TestAt(t *testing.T) {
	for i, c := range []struct {
		s         api.Spot
		at, phase int
		ok        bool
	}{
		{spotOf(1, 0), 100, 1, true},
		{spotOf(1, 0), 101, 2, true},
		{spotOf(1, 0), math.MaxInt, 2, true},
		{spotOf(1, 0), math.MinInt, 1, true},
		{spotOf(1, 7), 500, 2, true},
		{spotOf(2, 0), 500, 3, true},
		{spotOf(2, 1), 109, 4, true},
		{spotOf(2, 1), 110, 1, true},
		{spotOf(2, 1), 119, 1, true},
		{spotOf(2, 1), 120, 2, true},
		// A time that is below Now, or none, does as well.
		{spotOf(10, 1), 39, 4, true},
		{spotOf(10, 1), 40, 1, true},
		{spotOf(10, 1), 70, 2, true},
		{spotOf(10, 1), -1, 4, true},
		{spotOf(99, 7), lastTime, 4, true},
		{spotOf(99, 7), latest - 1, 4, true},
		{spotOf(99, 7), latest, 1, true},
		{spotOf(99, 7), latest + 29, 1, true},
		{spotOf(99, 7), latest + 30, 2, true},
		{spotOf(99, 7), 1<<32 + 5, 2, true},
		{spotOf(3, 0), 100, 0, false},
		{spotOf(1, 1), 100, 0, false},
		{spotOf(0, 0), 100, 0, false},
		{spotOf(1<<32+1, 0), 100, 0, false},
		{spotOf(math.MinInt, math.MaxInt), 100, 0, false},
	} {
		if p, ok := At(spread(), c.s, c.at); p != c.phase || ok != c.ok {
			t.Errorf("P9.3: At %d: %d, %t, want %d, %t", i, p, ok, c.phase, c.ok)
		}
	}
}

// A board that is not right is asked for the first alarm of a spot; time makes nothing of one that is not right.
func TestAtOfAnyBoard(t *testing.T) {
	if p, ok := At(api.Board{}, spotOf(1, 0), 5); p != 0 || ok {
		t.Errorf("P9.3: At of none: %d, %t", p, ok)
	}
	b := api.Board{Most: -1, Now: -1, Alarms: []api.Alarm{
		at(9, 0, 1, 1, 0, 10), at(1, 0, 4, 1, 0, 10), at(1, 0, 3, 1, 0, 10), {},
		at(5, 0, 1, 0, 0, 10), at(6, 0, -7, 1, 0, 10), at(7, 0, 4, 1, 20, 10), at(100, 9, 1, 1, 0, 10)}}
	for i, c := range []struct {
		s         api.Spot
		at, phase int
	}{
		{spotOf(9, 0), 9, 1}, {spotOf(9, 0), 10, 2},
		{spotOf(1, 0), 9, 4}, {spotOf(1, 0), 10, 1}, {spotOf(1, 0), 20, 2},
		{spotOf(0, 0), 50, 0}, {spotOf(5, 0), 50, 1}, {spotOf(6, 0), 50, -7}, {spotOf(7, 0), 50, 4}, {spotOf(100, 9), math.MaxInt, 1},
	} {
		if p, ok := At(b, c.s, c.at); p != c.phase || !ok {
			t.Errorf("P9.3: At %d: %d, %t, want %d", i, p, ok, c.phase)
		}
	}
}

// times are some at which the boards of right turn, and some between.
var times = []int{0, 4, 5, 7, 14, 15, 20, 29, 30, 31, 39, 40, 64, 70, 99, 100, 101, 110, 119, 120, 130, 154, 189, 190, 999, lastTime - 1, lastTime}

// The last turn of each alarm tells what it is behind Pass, and so does At.
func TestLastTurn(t *testing.T) {
	for i, b := range right() {
		for _, p := range times {
			if p < b.Now {
				continue
			}
			l, e := Turns(b, p)
			c, f := board.Pass(b, p)
			if e != api.OK || f != api.OK {
				t.Fatalf("P9.4: board %d till %d: %d, %d", i, p, e, f)
			}
			phases := map[api.Spot]int{}
			for _, a := range b.Alarms {
				phases[a.Spot] = a.Phase
			}
			for _, x := range l {
				phases[x.Spot] = x.Phase
			}
			if len(phases) != len(b.Alarms) {
				t.Errorf("P9.4: board %d: Turns till %d at spots without an alarm: %v", i, p, l)
			}
			for _, a := range c.Alarms {
				if phases[a.Spot] != a.Phase {
					t.Errorf("P9.4: board %d: at %d the last turn at %v tells %d, and it is %d", i, p, a.Spot, phases[a.Spot], a.Phase)
				}
				if q, ok := At(b, a.Spot, p); q != a.Phase || !ok {
					t.Errorf("P9.4: board %d: At %d: %d, and it is %d", i, p, q, a.Phase)
				}
			}
		}
	}
}

func TestNothingAheadOfNext(t *testing.T) {
	for i, b := range right() {
		n, ok := Next(b)
		if !ok {
			n = lastTime + 1
		}
		if p := min(n-1, lastTime); p >= b.Now {
			l, e := Turns(b, p)
			c, f := board.Pass(b, p)
			if e != api.OK || f != api.OK || len(l) != 0 || !slices.Equal(c.Alarms, b.Alarms) {
				t.Errorf("P9.4: board %d: ahead of %d: %v, %d", i, n, l, e)
			}
		}
		if n <= lastTime {
			l, e := Turns(b, max(n, b.Now))
			if e != api.OK || len(l) == 0 || l[0].At != n {
				t.Errorf("P9.4: board %d: at %d: %v, %d", i, n, l, e)
			}
		}
	}
}

func TestTurnsGoOn(t *testing.T) {
	for i, b := range right() {
		for _, p := range times {
			for _, q := range times {
				if p < b.Now || q < p {
					continue
				}
				all, e := Turns(b, q)
				first, f := Turns(b, p)
				c, g := board.Pass(b, p)
				then, h := Turns(c, q)
				if e != api.OK || f != api.OK || g != api.OK || h != api.OK || !slices.Equal(slices.Concat(first, then), all) {
					t.Errorf("P9.4: board %d: Turns till %d and %d: %v, %v, want %v", i, p, q, first, then, all)
				}
			}
		}
	}
}

func TestMemory(t *testing.T) {
	bad := turn(-7, -7, -7, -7)
	l := append(make([]api.Turn, 0, 40), spreadTurns()...)
	slices.Reverse(l)
	was := slices.Clone(l[:cap(l)])
	b := spread()
	b.Alarms = append(make([]api.Alarm, 0, 40), b.Alarms...)
	alarms := slices.Clone(b.Alarms[:cap(b.Alarms)])
	for name, call := range map[string]func() []api.Turn{
		"Order":        func() []api.Turn { return Order(l) },
		"Order of one": func() []api.Turn { return Order(l[:1]) },
		"Turns":        func() []api.Turn { x, _ := Turns(b, lastTime); return x },
	} {
		one, two := call(), call()
		if len(one) == 0 || !slices.Equal(one, two) {
			t.Errorf("R2: %s: %v, and then %v", name, one, two)
		}
		kept := slices.Clone(one)
		two = two[:cap(two)]
		for i := range two {
			two[i] = bad
		}
		if !slices.Equal(one, kept) || !slices.Equal(l[:cap(l)], was) {
			t.Errorf("R2: %s turns a list, or shares its memory", name)
		}
	}
	First(b.Alarms...)
	Next(b)
	At(b, spotOf(1, 0), lastTime)
	if !slices.Equal(b.Alarms[:cap(b.Alarms)], alarms) {
		t.Errorf("R2: the alarms are turned: %v", b.Alarms)
	}
}
