package board

import (
	"math"
	"math/rand"
	"slices"
	"testing"

	"watchman/alarm"
	"watchman/api"
)

const (
	lastTime = 1000000000
	latest   = 1000002000
)

// noTimes are numbers that are no time: some would be one, were they cut to fewer bits.
var noTimes = []int{-1, -2, -100, lastTime + 1, lastTime + 2, latest, 1 << 31, 1 << 32, 1<<32 + 100, -1 << 32, math.MaxInt, math.MinInt}

// noMosts are numbers of which there can be no board.
var noMosts = []int{0, -1, -2, -200, 201, 202, 256 + 5, 1 << 32, 1<<32 + 5, math.MaxInt, math.MinInt}

func spotOf(bed, channel int) api.Spot { return api.Spot{Bed: bed, Channel: channel} }

func at(bed, channel, phase, prio, since, until int) api.Alarm {
	return api.Alarm{Spot: spotOf(bed, channel), Phase: phase, Prio: prio, Since: since, Until: until}
}

// raised is an alarm that is opened at a time.
func raised(bed, channel, prio, since int) api.Alarm {
	a, e := alarm.Open(spotOf(bed, channel), prio, since)
	if e != api.OK {
		panic("no alarm to test with")
	}
	return a
}

func boardOf(most, now int, l ...api.Alarm) api.Board {
	return api.Board{Most: most, Now: now, Alarms: l}
}

// many are n alarms at the first spots, since 0.
func many(n int) []api.Alarm {
	var l []api.Alarm
	for i := range n {
		l = append(l, raised(1+i/8, i%8, 1+i%3, 0))
	}
	return l
}

// spread are alarms of each phase and priority, at spots that rise.
func spread() []api.Alarm {
	return []api.Alarm{
		at(1, 0, 1, 1, 90, 101),
		at(1, 7, 2, 3, 0, 0),
		at(2, 0, 3, 2, 50, 60),
		at(2, 1, 4, 1, 50, 110),
		at(9, 7, 4, 3, 99, 100),
		at(10, 0, 1, 2, 100, 130),
		at(98, 7, 1, 3, 100, 190),
		at(99, 7, 4, 2, 100, latest),
	}
}

// right are boards that are.
func right() []api.Board {
	return []api.Board{
		boardOf(1, 0),
		boardOf(200, 0),
		{Most: 3, Now: lastTime, Alarms: []api.Alarm{}},
		boardOf(1, 100, raised(12, 3, 2, 100)),
		boardOf(1, 0, at(1, 0, 1, 1, 0, 0)),
		boardOf(2, lastTime, at(99, 7, 4, 3, lastTime, latest)),
		boardOf(8, 100, spread()...),
		boardOf(9, 100, spread()...),
		boardOf(200, 1000, spread()...),
		boardOf(200, 0, many(200)...),
		boardOf(200, 7, many(199)...),
		boardOf(150, 7, many(150)...),
	}
}

// wrong are boards that are not right: each has one fault.
func wrong() []api.Board {
	a, b, c := raised(1, 0, 1, 5), raised(1, 1, 2, 5), raised(2, 0, 3, 5)
	l := []api.Board{
		{},
		boardOf(1, 10, a, b),
		boardOf(2, 10, a, b, c),
		boardOf(199, 10, many(200)...),
		boardOf(200, 10, many(201)...),
		boardOf(3, 10, b, a),
		boardOf(3, 10, c, a),
		boardOf(3, 10, c, b),
		boardOf(3, 10, a, c, b),
		boardOf(3, 10, b, a, c),
		boardOf(3, 10, a, a),
		boardOf(3, 10, a, b, b),
		boardOf(3, 10, a, a, b),
		boardOf(3, 10, a, raised(1, 0, 3, 7)),
		boardOf(3, 4, a),
		boardOf(3, 5, a, raised(1, 1, 2, 6)),
		boardOf(3, 5, raised(1, 0, 2, 6), b),
		boardOf(3, 10, a, api.Alarm{}),
		boardOf(3, 10, api.Alarm{}, a),
	}
	for _, n := range noMosts {
		l = append(l, boardOf(n, 10), boardOf(n, 10, a))
	}
	for _, n := range noTimes {
		l = append(l, boardOf(3, n), boardOf(3, n, at(1, 0, 1, 1, 0, 0)))
	}
	for _, x := range wrongAlarms() {
		l = append(l, boardOf(3, lastTime, x))
	}
	return l
}

// wrongAlarms are none that a board of any time takes.
func wrongAlarms() []api.Alarm {
	return []api.Alarm{
		{},
		at(0, 0, 1, 1, 5, 15),
		at(100, 0, 1, 1, 5, 15),
		at(1, -1, 1, 1, 5, 15),
		at(1, 8, 1, 1, 5, 15),
		at(1, 0, 0, 1, 5, 15),
		at(1, 0, 5, 1, 5, 15),
		at(1, 0, 1, 0, 5, 15),
		at(1, 0, 1, 4, 5, 15),
		at(1, 0, 1, 1, -1, 15),
		at(1, 0, 1, 1, lastTime+1, latest),
		at(1, 0, 1, 1, 5, 4),
		at(1, 0, 1, 1, 5, latest+1),
		at(1<<32+1, 0, 1, 1, 5, 15),
		at(1, math.MinInt, 1, 1, 5, 15),
		at(1, 0, math.MaxInt, 1, 5, 15),
		at(1, 0, 1, 1, math.MinInt, 15),
		at(1, 0, 1, 1, 5, math.MaxInt),
	}
}

func same(a, b api.Board) bool {
	return a.Most == b.Most && a.Now == b.Now && slices.Equal(a.Alarms, b.Alarms)
}

func isZero(b api.Board) bool { return b.Most == 0 && b.Now == 0 && len(b.Alarms) == 0 }

// place is a spot's number, by which spots rise.
func place(s api.Spot) int { return 8*s.Bed + s.Channel }

// putByHand is what Put should make of a right board and alarm: all by their places, the new one in the stead of the old.
func putByHand(b api.Board, a api.Alarm) (api.Board, api.Errno) {
	by := map[int]api.Alarm{}
	for _, x := range b.Alarms {
		by[place(x.Spot)] = x
	}
	by[place(a.Spot)] = a
	if len(by) > b.Most {
		return api.Board{}, api.ErrFull
	}
	c := api.Board{Most: b.Most, Now: b.Now}
	for n := range 1000 {
		if x, ok := by[n]; ok {
			c.Alarms = append(c.Alarms, x)
		}
	}
	return c, api.OK
}

func TestNew(t *testing.T) {
	for n := 1; n <= 200; n++ {
		if b, e := New(n); e != api.OK || !same(b, api.Board{Most: n}) {
			t.Errorf("P8.1: New(%d): %+v, %d", n, b, e)
		}
	}
	for _, n := range noMosts {
		if b, e := New(n); e != api.ErrArg || !isZero(b) {
			t.Errorf("P8.1: New(%d): %+v, %d", n, b, e)
		}
	}
}

func TestIs(t *testing.T) {
	for i, b := range right() {
		if !Is(b) {
			t.Errorf("P8.1: Is of the right board %d is false: %+v", i, b)
		}
	}
	for i, b := range wrong() {
		if Is(b) {
			t.Errorf("P8.1: Is of the wrong board %d is true: %+v", i, b)
		}
	}
}

func TestGet(t *testing.T) {
	for i, b := range right() {
		for _, a := range b.Alarms {
			if x, ok := Get(b, a.Spot); !ok || x != a {
				t.Errorf("P8.1: Get of board %d at %v: %+v, %v", i, a.Spot, x, ok)
			}
		}
	}
	b := boardOf(9, 100, spread()...)
	for _, s := range []api.Spot{{}, spotOf(1, 1), spotOf(0, 1), spotOf(7, 1), spotOf(2, 2), spotOf(99, 0), spotOf(100, 0), spotOf(10, 8), spotOf(-1, -1), spotOf(math.MaxInt, math.MinInt), spotOf(1<<32+1, 0)} {
		if x, ok := Get(b, s); ok || x != (api.Alarm{}) {
			t.Errorf("P8.1: Get at %v: %+v, %v", s, x, ok)
		}
	}
	// A board that is not right is asked all the same: the first one is told, though spots do not rise.
	x, y, z := at(5, 0, 9, 9, 9, 9), at(1, 0, 1, 1, 0, 0), at(5, 0, 1, 1, 0, 0)
	c := boardOf(-1, -1, x, y, z, api.Alarm{}, at(-3, 77, 0, 0, 0, 0))
	for _, a := range []api.Alarm{x, y, {}, at(-3, 77, 0, 0, 0, 0)} {
		if g, ok := Get(c, a.Spot); !ok || g != a {
			t.Errorf("P8.1: Get at %v of a wrong board: %+v, %v", a.Spot, g, ok)
		}
	}
	if g, ok := Get(api.Board{}, api.Spot{}); ok || g != (api.Alarm{}) {
		t.Errorf("P8.1: Get of nothing: %+v, %v", g, ok)
	}
}

func TestOf(t *testing.T) {
	l := spread()
	b := boardOf(9, 100, l...)
	x, y, z := at(5, 9, 9, 9, 9, 9), at(-4, 0, 1, 1, 0, 0), at(5, 0, 1, 1, 0, 0)
	w := boardOf(0, -7, x, y, z, x, api.Alarm{})
	for i, c := range []struct {
		b    api.Board
		beds []int
		want []api.Alarm
	}{
		{b, nil, nil},
		{b, []int{}, nil},
		{b, []int{1}, l[:2]},
		{b, []int{2}, l[2:4]},
		{b, []int{1, 1, 1}, l[:2]},
		{b, []int{2, 1}, l[:4]},
		{b, []int{99, 10, 9}, []api.Alarm{l[4], l[5], l[7]}},
		{b, []int{99, 98, 10, 9, 2, 1}, l},
		{b, []int{0, 3, -1, 100, math.MaxInt, math.MinInt, 1<<32 + 1}, nil},
		{b, []int{3, 98, -2}, l[6:7]},
		{api.Board{}, []int{0, 1}, nil},
		{w, []int{5}, []api.Alarm{x, z, x}},
		{w, []int{0, -4}, []api.Alarm{y, {}}},
		{w, []int{-4, 5, 0}, w.Alarms},
		{w, []int{1}, nil},
	} {
		if got := Of(c.b, c.beds...); !slices.Equal(got, c.want) {
			t.Errorf("P8.1: %d: Of(%v): %v, want %v", i, c.beds, got, c.want)
		}
	}
}

func TestPut(t *testing.T) {
	for i, b := range right() {
		for bed := 1; bed <= 99; bed++ {
			for _, channel := range []int{0, 1, 3, 6, 7} {
				a := at(bed, channel, 1+bed%4, 1+channel%3, min(bed, b.Now), 999)
				want, f := putByHand(b, a)
				if c, e := Put(b, a); e != f || !same(c, want) {
					t.Fatalf("P8.2: board %d: Put at %v: %+v, %d, want %+v, %d", i, a.Spot, c, e, want, f)
				}
			}
		}
	}
}

func TestPutFull(t *testing.T) {
	for _, most := range []int{1, 2, 8, 199, 200} {
		l := many(most)
		b := boardOf(most, 10, l...)
		for _, a := range []api.Alarm{raised(99, 7, 1, 0), raised(1+most/8, most%8, 1, 10)} {
			if c, e := Put(b, a); e != api.ErrFull || !isZero(c) {
				t.Errorf("P8.2: Put on a full board of %d: %+v, %d", most, c, e)
			}
		}
		// One in the place of another takes no more room.
		for _, x := range l {
			x.Phase, x.Since = 3, 9
			if c, e := Put(b, x); e != api.OK || len(c.Alarms) != most || !slices.Contains(c.Alarms, x) {
				t.Errorf("P8.2: Put over one of a full board of %d: %d", most, e)
			}
		}
		b.Most = 200
		if c, e := Put(b, raised(99, 7, 1, 0)); most < 200 && (e != api.OK || len(c.Alarms) != most+1) {
			t.Errorf("P8.2: Put on a board of 200 with %d: %d", most, e)
		}
	}
}

func TestPutWrong(t *testing.T) {
	for i, b := range wrong() {
		for _, a := range []api.Alarm{at(1, 0, 1, 1, 0, 0), at(99, 7, 1, 1, 0, 0), {}} {
			if c, e := Put(b, a); e != api.ErrArg || !isZero(c) {
				t.Errorf("P8.2: Put on the wrong board %d: %+v, %d", i, c, e)
			}
		}
	}
	full := boardOf(1, lastTime, raised(50, 0, 1, 0))
	for _, b := range []api.Board{boardOf(2, lastTime), full, boardOf(9, lastTime, spread()...)} {
		for i, a := range wrongAlarms() {
			if c, e := Put(b, a); e != api.ErrArg || !isZero(c) {
				t.Errorf("P8.2: Put of the wrong alarm %d: %+v, %d", i, c, e)
			}
		}
	}
	for _, b := range []api.Board{boardOf(2, 100), boardOf(1, 100, raised(50, 0, 1, 0)), boardOf(8, 100, spread()...)} {
		for _, since := range []int{101, 102, 1000, lastTime} {
			if c, e := Put(b, raised(5, 5, 2, since)); e != api.ErrArg || !isZero(c) {
				t.Errorf("P8.2: Put of one since %d at 100: %+v, %d", since, c, e)
			}
		}
	}
	if c, e := Put(boardOf(2, 100), raised(5, 5, 2, 100)); e != api.OK || len(c.Alarms) != 1 {
		t.Errorf("P8.2: Put of one since now: %+v, %d", c, e)
	}
}

func TestDrop(t *testing.T) {
	for i, b := range right() {
		for k, a := range b.Alarms {
			want := boardOf(b.Most, b.Now, slices.Delete(slices.Clone(b.Alarms), k, k+1)...)
			if c, e := Drop(b, a.Spot); e != api.OK || !same(c, want) {
				t.Errorf("P8.2: board %d: Drop at %v: %+v, %d", i, a.Spot, c, e)
			}
		}
		for _, s := range []api.Spot{{}, spotOf(50, 5), spotOf(100, 0), spotOf(-1, 0), spotOf(1, 8), spotOf(math.MinInt, math.MaxInt), spotOf(1<<32+1, 0)} {
			if c, e := Drop(b, s); e != api.ErrNone || !isZero(c) {
				t.Errorf("P8.2: board %d: Drop at %v: %+v, %d", i, s, c, e)
			}
		}
	}
	for i, b := range wrong() {
		for _, s := range []api.Spot{spotOf(1, 0), spotOf(99, 7), {}} {
			if c, e := Drop(b, s); e != api.ErrArg || !isZero(c) {
				t.Errorf("P8.2: Drop of the wrong board %d: %+v, %d", i, c, e)
			}
		}
	}
}

// TestExample is the table of the chapter.
func TestExample(t *testing.T) {
	b, e := New(1)
	b, f := Put(b, raised(1, 0, 1, 0))
	if e != api.OK || f != api.OK {
		t.Fatalf("P8.2: %d, %d", e, f)
	}
	if _, e := Put(b, raised(2, 0, 1, 0)); e != api.ErrFull {
		t.Errorf("P8.2: Put one at 2/0: %d", e)
	}
	if _, e := Drop(b, spotOf(2, 0)); e != api.ErrNone {
		t.Errorf("P8.2: Drop 2/0: %d", e)
	}
	if c, e := Drop(b, spotOf(1, 0)); e != api.OK || !same(c, api.Board{Most: 1}) {
		t.Errorf("P8.2: Drop 1/0: %+v, %d", c, e)
	}
}

func TestPass(t *testing.T) {
	l := spread()
	b := boardOf(8, 100, l...)
	// What each is by hand, from a time on.
	type turn struct{ i, phase, until int }
	for _, c := range []struct {
		at    int
		turns []turn
	}{
		{100, []turn{{4, 1, 190}}},
		{101, []turn{{4, 1, 190}, {0, 2, 101}}},
		{110, []turn{{4, 1, 190}, {0, 2, 101}, {3, 1, 120}}},
		{119, []turn{{4, 1, 190}, {0, 2, 101}, {3, 1, 120}}},
		{120, []turn{{4, 1, 190}, {0, 2, 101}, {3, 2, 120}}},
		{130, []turn{{4, 1, 190}, {0, 2, 101}, {3, 2, 120}, {5, 2, 130}}},
		{189, []turn{{4, 1, 190}, {0, 2, 101}, {3, 2, 120}, {5, 2, 130}}},
		{190, []turn{{4, 2, 190}, {0, 2, 101}, {3, 2, 120}, {5, 2, 130}, {6, 2, 190}}},
		{lastTime, []turn{{4, 2, 190}, {0, 2, 101}, {3, 2, 120}, {5, 2, 130}, {6, 2, 190}}},
	} {
		want := boardOf(8, c.at, slices.Clone(l)...)
		for _, x := range c.turns {
			want.Alarms[x.i].Phase, want.Alarms[x.i].Until = x.phase, x.until
		}
		if got, e := Pass(b, c.at); e != api.OK || !same(got, want) {
			t.Errorf("P8.3: Pass till %d: %+v, %d, want %+v", c.at, got, e, want)
		}
	}
	// The latest that time can make: a wake at the last time.
	z := boardOf(2, lastTime, at(1, 0, 4, 3, lastTime, lastTime))
	if got, e := Pass(z, lastTime); e != api.OK || !same(got, boardOf(2, lastTime, at(1, 0, 1, 3, lastTime, lastTime+90))) {
		t.Errorf("P8.3: Pass till the last time: %+v, %d", got, e)
	}
}

func TestPassWrong(t *testing.T) {
	for i, b := range wrong() {
		for _, at := range []int{0, 5, 10, 100, lastTime, -1} {
			if c, e := Pass(b, at); e != api.ErrArg || !isZero(c) {
				t.Errorf("P8.3: Pass of the wrong board %d: %+v, %d", i, c, e)
			}
		}
	}
	for i, b := range right() {
		for _, at := range noTimes {
			// A time that is none is told as that, though it may be below Now as well.
			if c, e := Pass(b, at); e != api.ErrArg || !isZero(c) {
				t.Errorf("P8.3: board %d: Pass till %d: %+v, %d", i, at, c, e)
			}
		}
		for _, at := range []int{0, 1, 5, 99, 999, lastTime - 1} {
			if at >= b.Now {
				continue
			}
			if c, e := Pass(b, at); e != api.ErrPast || !isZero(c) {
				t.Errorf("P8.3: board %d: Pass till %d: %+v, %d", i, at, c, e)
			}
		}
		if c, e := Pass(b, b.Now); e != api.OK || c.Now != b.Now || !Is(c) {
			t.Errorf("P8.3: board %d: Pass till now: %+v, %d", i, c, e)
		}
	}
}

func TestPutLaws(t *testing.T) {
	for i, b := range right() {
		if len(b.Alarms) == b.Most {
			b.Most++
		}
		if b.Most > 200 {
			continue
		}
		for n := range 792 {
			a := at(1+n/8, n%8, 1+n%4, 1+n%3, 0, 5)
			was, had := Get(b, a.Spot)
			c, e := Put(b, a)
			if g, ok := Get(c, a.Spot); e != api.OK || !ok || g != a || !Is(c) {
				t.Fatalf("P8.4: board %d: what is put at %v is not got: %+v, %d", i, a.Spot, g, e)
			}
			for _, x := range b.Alarms {
				if g, ok := Get(c, x.Spot); x.Spot != a.Spot && (!ok || g != x) {
					t.Fatalf("P8.4: board %d: Put at %v turns another one: %+v", i, a.Spot, g)
				}
			}
			back, e := Drop(c, a.Spot)
			if had {
				back, e = Put(back, was)
			}
			if e != api.OK || !same(back, b) {
				t.Fatalf("P8.4: board %d: Put at %v and dropped again: %+v, %d", i, a.Spot, back, e)
			}
		}
	}
}

func TestPassLaw(t *testing.T) {
	times := []int{0, 7, 10, 29, 30, 31, 90, 99, 100, 101, 105, 110, 115, 119, 120, 121, 130, 150, 189, 190, 191, 999, 1000, 1090, lastTime - 1, lastTime}
	for i, b := range right() {
		for _, p := range times {
			for _, q := range times {
				if p < b.Now || q < p {
					continue
				}
				half, e := Pass(b, p)
				twice, f := Pass(half, q)
				once, g := Pass(b, q)
				if e != api.OK || f != api.OK || g != api.OK || !same(twice, once) || !Is(half) || !Is(once) {
					t.Errorf("P8.4: board %d: Pass till %d and then %d: %+v, %+v", i, p, q, twice, once)
				}
			}
		}
	}
}

// TestWalk holds a board, turned many times over, against one that is made anew by hand each time.
func TestWalk(t *testing.T) {
	r := rand.New(rand.NewSource(8))
	b, _ := New(12)
	for n := range 5000 {
		s := spotOf(1+r.Intn(5), r.Intn(4))
		want, f := b, api.OK
		var got api.Board
		var e api.Errno
		switch r.Intn(3) {
		case 0, 1:
			a := raised(s.Bed, s.Channel, 1+r.Intn(3), r.Intn(b.Now+1))
			want, f = putByHand(b, a)
			got, e = Put(b, a)
		case 2:
			k := slices.IndexFunc(b.Alarms, func(a api.Alarm) bool { return a.Spot == s })
			if k < 0 {
				want, f = api.Board{}, api.ErrNone
			} else {
				want.Alarms = slices.Delete(slices.Clone(b.Alarms), k, k+1)
			}
			got, e = Drop(b, s)
		}
		if e != f || !same(got, want) {
			t.Fatalf("P8.2: deed %d: %+v, %d, want %+v, %d", n, got, e, want, f)
		}
		if e == api.OK {
			b, e = Pass(got, got.Now+r.Intn(4))
		}
		if e != f || !Is(b) {
			t.Fatalf("P8.3: deed %d: %+v, %d", n, b, e)
		}
	}
}

// spoil writes over all memory that a list has.
func spoil(l []api.Alarm) {
	l = l[:cap(l)]
	for i := range l {
		l[i] = at(77, 7, 7, 7, 7, 7)
	}
}

func TestMemory(t *testing.T) {
	l := append(make([]api.Alarm, 0, 40), spread()...)
	spoil(l[len(l):])
	was := slices.Clone(l[:cap(l)])
	b := boardOf(20, 100, l...)
	for name, call := range map[string]func() []api.Alarm{
		"Put ahead":  func() []api.Alarm { c, _ := Put(b, raised(1, 1, 1, 0)); return c.Alarms },
		"Put behind": func() []api.Alarm { c, _ := Put(b, raised(99, 7, 1, 0)); return c.Alarms },
		"Put over":   func() []api.Alarm { c, _ := Put(b, raised(9, 7, 1, 0)); return c.Alarms },
		"Drop first": func() []api.Alarm { c, _ := Drop(b, l[0].Spot); return c.Alarms },
		"Drop last":  func() []api.Alarm { c, _ := Drop(b, l[7].Spot); return c.Alarms },
		"Pass":       func() []api.Alarm { c, _ := Pass(b, 100); return c.Alarms },
		"Pass on":    func() []api.Alarm { c, _ := Pass(b, 5000); return c.Alarms },
		"Of some":    func() []api.Alarm { return Of(b, 1, 2) },
		"Of all":     func() []api.Alarm { return Of(b, 1, 2, 9, 10, 98, 99) },
	} {
		one := call()
		if !slices.Equal(l[:cap(l)], was) {
			t.Fatalf("R2: %s turns what is handed in", name)
		}
		two := call()
		if len(one) == 0 || !slices.Equal(one, two) {
			t.Errorf("R2: %s: %v, and then %v", name, one, two)
		}
		kept := slices.Clone(one)
		spoil(two)
		if !slices.Equal(one, kept) || !slices.Equal(l[:cap(l)], was) {
			t.Errorf("R2: %s tells a list that shares its memory", name)
		}
	}
	beds := []int{9, 1, 9, 2}
	Of(b, beds...)
	if !slices.Equal(beds, []int{9, 1, 9, 2}) {
		t.Errorf("R2: Of turns the beds: %v", beds)
	}
}
