package alarm

import (
	"math"
	"testing"

	"watchman/api"
)

const (
	lastTime = 1000000000
	latest   = 1000002000
)

var here = api.Spot{Bed: 12, Channel: 3}

// noTimes are numbers that are no time: some would be one, were they cut to fewer bits.
var noTimes = []int{-1, -2, -100, lastTime + 1, lastTime + 2, latest, 1 << 31, 1 << 32, 1<<32 + 100, -1 << 32, math.MaxInt, math.MaxInt - 1, math.MinInt, math.MinInt + 1}

// noPrios are numbers that are no priority.
var noPrios = []int{0, -1, -2, -3, 4, 5, 10, 90, 255, 256, 257, 258, 1 << 32, 1<<32 + 1, 1<<32 + 2, math.MaxInt, math.MinInt, math.MinInt + 1}

var noSpots = []api.Spot{{}, {Bed: 0, Channel: 3}, {Bed: 100, Channel: 3}, {Bed: -1, Channel: 3}, {Bed: 12, Channel: -1}, {Bed: 12, Channel: 8}, {Bed: math.MaxInt}, {Bed: 1, Channel: math.MinInt}}

// made are the phases and deeds of this chapter by which something is made, by the numbers of chapter 5.
var made = map[[2]int]int{
	{1, 2}: 2, {1, 3}: 3, {1, 4}: 4,
	{2, 3}: 3, {2, 4}: 4,
	{3, 4}: 4,
	{4, 3}: 3, {4, 6}: 1,
}

var waits = map[int]int{1: 10, 2: 30, 3: 90}

// one is an alarm here.
func one(phase, prio, since, until int) api.Alarm {
	return api.Alarm{Spot: here, Phase: phase, Prio: prio, Since: since, Until: until}
}

// wrong are alarms that are not right.
func wrong() []api.Alarm {
	var l []api.Alarm
	for _, s := range noSpots {
		a := one(1, 2, 100, 130)
		a.Spot = s
		l = append(l, a)
	}
	for _, phase := range []int{0, -1, -4, 5, 6, 100, 256 + 1, 1<<32 + 1, math.MaxInt, math.MinInt} {
		l = append(l, one(phase, 2, 100, 130))
	}
	for _, prio := range noPrios {
		l = append(l, one(1, prio, 100, 130), one(4, prio, 100, 130))
	}
	for _, since := range noTimes {
		l = append(l, one(1, 2, since, since), one(1, 2, since, latest))
	}
	for phase := 1; phase <= 4; phase++ {
		l = append(l, one(phase, 2, 100, 99), one(phase, 2, 100, 0), one(phase, 2, 100, -1), one(phase, 2, 100, math.MinInt))
		l = append(l, one(phase, 2, 100, latest+1), one(phase, 2, lastTime, latest+90), one(phase, 2, 100, math.MaxInt))
		l = append(l, one(phase, 2, 1, 0), one(phase, 2, lastTime, lastTime-1))
	}
	return l
}

// right are alarms that are, of each phase and priority, with those at the edges among them.
func right() []api.Alarm {
	var l []api.Alarm
	for _, x := range [][2]int{{0, 0}, {0, 1}, {0, latest}, {100, 100}, {100, 105}, {100, 130}, {100, 190}, {100, latest}, {lastTime - 5, lastTime}, {lastTime, lastTime}, {lastTime, lastTime + 1}, {lastTime, latest - 1}, {lastTime, latest}} {
		for phase := 1; phase <= 4; phase++ {
			for prio := 1; prio <= 3; prio++ {
				l = append(l, one(phase, prio, x[0], x[1]))
			}
		}
	}
	return append(l,
		api.Alarm{Spot: api.Spot{Bed: 1, Channel: 0}, Phase: 1, Prio: 1, Since: 0, Until: 10},
		api.Alarm{Spot: api.Spot{Bed: 99, Channel: 7}, Phase: 4, Prio: 3, Since: 7, Until: 9})
}

// around are times at and beside those of an alarm, and at the edges.
func around(a api.Alarm) []int {
	l := []int{0, 1, lastTime - 1, lastTime}
	for _, x := range []int{a.Since, a.Until} {
		for _, by := range []int{-90, -30, -10, -1, 0, 1, 10, 29, 30, 31, 90, 1000} {
			if x+by >= 0 && x+by <= lastTime {
				l = append(l, x+by)
			}
		}
	}
	return l
}

func TestIs(t *testing.T) {
	for _, a := range right() {
		if !Is(a) {
			t.Errorf("P6.1: Is(%+v): false", a)
		}
	}
	for _, a := range wrong() {
		if Is(a) {
			t.Errorf("P6.1: Is(%+v): true", a)
		}
	}
	if Is(api.Alarm{}) {
		t.Error("P6.1: the zero alarm is right")
	}
}

func TestWait(t *testing.T) {
	for prio, want := range waits {
		if n := Wait(prio); n != want {
			t.Errorf("P6.1: Wait(%d): %d", prio, n)
		}
	}
	for _, prio := range noPrios {
		if n := Wait(prio); n != 0 {
			t.Errorf("P6.1: Wait(%d): %d", prio, n)
		}
	}
}

func TestOpen(t *testing.T) {
	for _, at := range []int{0, 1, 100, lastTime - 1, lastTime} {
		for prio, wait := range waits {
			for _, s := range []api.Spot{here, {Bed: 1}, {Bed: 99, Channel: 7}} {
				a, e := Open(s, prio, at)
				want := api.Alarm{Spot: s, Phase: 1, Prio: prio, Since: at, Until: at + wait}
				if a != want || e != api.OK || !Is(a) {
					t.Errorf("P6.1: Open(%v, %d, %d): %+v, %d", s, prio, at, a, e)
				}
			}
		}
	}
}

func TestOpenOfWrong(t *testing.T) {
	refused := func(s api.Spot, prio, at int) {
		if a, e := Open(s, prio, at); a != (api.Alarm{}) || e != api.ErrArg {
			t.Errorf("P6.1: Open(%v, %d, %d): %+v, %d", s, prio, at, a, e)
		}
	}
	for _, s := range noSpots {
		refused(s, 1, 100)
	}
	for _, prio := range noPrios {
		refused(here, prio, 100)
	}
	for _, at := range noTimes {
		refused(here, 1, at)
		refused(api.Spot{}, 0, at)
	}
}

func TestRaise(t *testing.T) {
	for i, x := range []struct {
		a        api.Alarm
		prio, at int
		want     api.Alarm
	}{
		// RAISED: a lesser priority may only bring Until nearer, another one turns nothing.
		{one(1, 2, 100, 130), 2, 100, one(1, 2, 100, 130)},
		{one(1, 2, 100, 130), 3, 100, one(1, 2, 100, 130)},
		{one(1, 2, 100, 180), 2, 105, one(1, 2, 100, 180)},
		{one(1, 2, 100, 180), 3, 105, one(1, 2, 100, 180)},
		{one(1, 2, 100, 130), 1, 100, one(1, 1, 100, 110)},
		{one(1, 2, 100, 130), 1, 119, one(1, 1, 100, 129)},
		{one(1, 2, 100, 130), 1, 120, one(1, 1, 100, 130)},
		{one(1, 2, 100, 130), 1, 121, one(1, 1, 100, 130)},
		{one(1, 2, 100, 130), 1, 900, one(1, 1, 100, 130)},
		{one(1, 3, 100, 190), 2, 150, one(1, 2, 100, 180)},
		{one(1, 3, 100, 190), 1, 150, one(1, 1, 100, 160)},
		{one(1, 3, 100, 100), 1, 100, one(1, 1, 100, 100)},
		{one(1, 3, 0, 90), 1, 0, one(1, 1, 0, 10)},
		{one(1, 3, lastTime, latest), 1, lastTime, one(1, 1, lastTime, lastTime+10)},
		{one(1, 1, 100, 110), 1, 105, one(1, 1, 100, 110)},
		// ESCALATED and SILENCED: the priority alone.
		{one(2, 2, 100, 130), 1, 140, one(2, 1, 100, 130)},
		{one(2, 2, 100, 900), 1, 140, one(2, 1, 100, 900)},
		{one(2, 2, 100, 130), 3, 140, one(2, 2, 100, 130)},
		{one(4, 2, 100, 500), 1, 140, one(4, 1, 100, 500)},
		{one(4, 2, 100, 500), 3, 140, one(4, 2, 100, 500)},
		// ACKED: it begins anew.
		{one(3, 2, 100, 110), 3, 140, one(1, 2, 140, 170)},
		{one(3, 2, 100, 110), 2, 140, one(1, 2, 140, 170)},
		{one(3, 2, 100, 110), 1, 140, one(1, 1, 140, 150)},
		{one(3, 3, 100, 110), 3, 100, one(1, 3, 100, 190)},
		{one(3, 3, 100, 900), 3, 105, one(1, 3, 105, 195)},
		{one(3, 3, 0, 0), 3, lastTime, one(1, 3, lastTime, lastTime+90)},
	} {
		if a, e := Raise(x.a, x.prio, x.at); a != x.want || e != api.OK {
			t.Errorf("P6.2: %d: Raise(%+v, %d, %d): %+v, %d, not %+v", i, x.a, x.prio, x.at, a, e, x.want)
		}
	}
}

func TestRaiseOfWrong(t *testing.T) {
	refused := func(a api.Alarm, prio, at int, want api.Errno) {
		if b, e := Raise(a, prio, at); b != (api.Alarm{}) || e != want {
			t.Errorf("P6.2: Raise(%+v, %d, %d): %+v, %d, not %d", a, prio, at, b, e, want)
		}
	}
	for _, a := range wrong() {
		refused(a, 1, 200, api.ErrArg)
		refused(a, 1, 0, api.ErrArg)
	}
	for phase := 1; phase <= 4; phase++ {
		a := one(phase, 2, 100, 130)
		for _, prio := range noPrios {
			refused(a, prio, 100, api.ErrArg)
			refused(a, prio, 99, api.ErrArg) // and not ErrPast
		}
		for _, at := range noTimes {
			refused(a, 1, at, api.ErrArg)
		}
		refused(a, 1, 99, api.ErrPast)
		refused(a, 3, 0, api.ErrPast)
		refused(one(phase, 2, lastTime, latest), 1, lastTime-1, api.ErrPast)
	}
}

// raisedByHand tells by the chapter's words what Raise makes of what it does not refuse.
func raisedByHand(a api.Alarm, prio, at int) api.Alarm {
	before := a
	if prio < a.Prio {
		a.Prio = prio
	}
	until := at + waits[a.Prio]
	if before.Phase == 3 {
		a.Phase, a.Since, a.Until = 1, at, until
	} else if before.Phase == 1 && a.Prio != before.Prio && until < a.Until {
		a.Until = max(until, a.Since)
	}
	return a
}

func TestRaiseOfAll(t *testing.T) {
	for _, a := range right() {
		for prio := 1; prio <= 3; prio++ {
			for _, at := range around(a) {
				want, wantE := raisedByHand(a, prio, at), api.OK
				if at < a.Since {
					want, wantE = api.Alarm{}, api.ErrPast
				}
				b, e := Raise(a, prio, at)
				if b != want || e != wantE {
					t.Errorf("P6.2: Raise(%+v, %d, %d): %+v, %d, not %+v, %d", a, prio, at, b, e, want, wantE)
				}
				if e == api.OK && !Is(b) {
					t.Errorf("P6.5: Raise(%+v, %d, %d) is not right: %+v", a, prio, at, b)
				}
			}
		}
	}
}

func TestDo(t *testing.T) {
	for i, x := range []struct {
		a              api.Alarm
		deed, at, long int
		want           api.Alarm
	}{
		{one(1, 2, 100, 130), 2, 130, 0, one(2, 2, 100, 130)},
		{one(1, 2, 100, 130), 2, 131, 0, one(2, 2, 100, 131)},
		{one(1, 2, 100, 130), 2, lastTime, -5, one(2, 2, 100, lastTime)},
		{one(1, 2, 100, 100), 2, 100, 0, one(2, 2, 100, 100)},
		{one(1, 2, 100, 130), 3, 100, 0, one(3, 2, 100, 100)},
		{one(1, 2, 100, 130), 3, 140, math.MaxInt, one(3, 2, 100, 140)},
		{one(2, 2, 100, 130), 3, 100, math.MinInt, one(3, 2, 100, 100)},
		{one(4, 2, 100, 130), 3, 101, 0, one(3, 2, 100, 101)},
		{one(4, 2, 0, 130), 3, 0, 0, one(3, 2, 0, 0)},
		{one(1, 2, 100, 130), 4, 110, 5, one(4, 2, 100, 115)},
		{one(1, 2, 100, 130), 4, 100, 1, one(4, 2, 100, 101)},
		{one(2, 1, 100, 130), 4, 140, 1000, one(4, 1, 100, 1140)},
		{one(3, 3, 100, 130), 4, 100, 999, one(4, 3, 100, 1099)},
		{one(3, 3, 100, 130), 4, lastTime, 1000, one(4, 3, 100, lastTime+1000)},
		{one(4, 1, 100, 130), 6, 130, 0, one(1, 1, 100, 140)},
		{one(4, 2, 100, 130), 6, 130, 2000, one(1, 2, 100, 160)},
		{one(4, 3, 100, 130), 6, 131, -1, one(1, 3, 100, 221)},
		{one(4, 3, 100, 130), 6, lastTime, 0, one(1, 3, 100, lastTime+90)},
	} {
		if a, e := Do(x.a, x.deed, x.at, x.long); a != x.want || e != api.OK {
			t.Errorf("P6.3: %d: Do(%+v, %d, %d, %d): %+v, %d, not %+v", i, x.a, x.deed, x.at, x.long, a, e, x.want)
		}
	}
}

func TestDoOfWrong(t *testing.T) {
	refused := func(a api.Alarm, deed, at, long int) {
		if b, e := Do(a, deed, at, long); b != (api.Alarm{}) || e != api.ErrArg {
			t.Errorf("P6.3: Do(%+v, %d, %d, %d): %+v, %d", a, deed, at, long, b, e)
		}
	}
	for _, deed := range []int{2, 3, 4, 6} {
		for _, a := range wrong() {
			refused(a, deed, 200, 5)
			refused(a, deed, 0, 5)
		}
		for phase := 1; phase <= 4; phase++ {
			for _, at := range noTimes {
				refused(one(phase, 2, 100, 130), deed, at, 5)
			}
		}
	}
	for phase := 1; phase <= 4; phase++ {
		a := one(phase, 2, 100, 130)
		for _, deed := range []int{0, 1, 5, 7, 8, -1, -2, -3, -4, -6, 100, 256 + 2, 256 + 3, 1<<32 + 3, math.MaxInt, math.MinInt} {
			refused(a, deed, 200, 5)
			refused(a, deed, 99, 5)
		}
		for _, long := range []int{0, -1, -5, -1000, 1001, 1002, 256 * 256, 1 << 32, 1<<32 + 5, math.MaxInt, math.MinInt, math.MinInt + 5} {
			refused(a, 4, 200, long)
			refused(a, 4, 99, long) // and not ErrPast, nor ErrPhase
		}
	}
}

func TestDoTellsWhatIsNamedFirst(t *testing.T) {
	for i, x := range []struct {
		a        api.Alarm
		deed, at int
		want     api.Errno
	}{
		{one(1, 2, 100, 130), 2, 99, api.ErrPast},
		{one(1, 2, 100, 130), 3, 99, api.ErrPast},
		{one(1, 2, 100, 130), 4, 99, api.ErrPast},
		{one(4, 2, 100, 130), 6, 0, api.ErrPast},
		{one(1, 2, 100, 130), 6, 99, api.ErrPast}, // WAKE makes nothing of it, too
		{one(3, 2, 100, 130), 3, 99, api.ErrPast},
		{one(1, 2, 100, 130), 6, 129, api.ErrPhase}, // and it is early
		{one(1, 2, 100, 130), 6, 130, api.ErrPhase},
		{one(2, 2, 100, 130), 2, 129, api.ErrPhase},
		{one(2, 2, 100, 130), 2, 130, api.ErrPhase},
		{one(2, 2, 100, 130), 6, 100, api.ErrPhase},
		{one(3, 2, 100, 130), 2, 100, api.ErrPhase},
		{one(3, 2, 100, 130), 3, 200, api.ErrPhase},
		{one(3, 2, 100, 130), 6, 200, api.ErrPhase},
		{one(4, 2, 100, 130), 2, 129, api.ErrPhase},
		{one(4, 2, 100, 130), 4, 200, api.ErrPhase},
		{one(1, 2, 100, 130), 2, 100, api.ErrEarly},
		{one(1, 2, 100, 130), 2, 129, api.ErrEarly},
		{one(4, 2, 100, 130), 6, 100, api.ErrEarly},
		{one(4, 2, 100, 130), 6, 129, api.ErrEarly},
		{one(1, 2, 100, lastTime+1), 2, lastTime, api.ErrEarly},
		{one(4, 2, 100, latest), 6, lastTime, api.ErrEarly},
	} {
		if a, e := Do(x.a, x.deed, x.at, 5); a != (api.Alarm{}) || e != x.want {
			t.Errorf("P6.3: %d: Do(%+v, %d, %d, 5): %+v, %d, not %d", i, x.a, x.deed, x.at, a, e, x.want)
		}
	}
}

// doneByHand tells by the chapter's words what Do answers of right arguments.
func doneByHand(a api.Alarm, deed, at, long int) (api.Alarm, api.Errno) {
	phase, makes := made[[2]int{a.Phase, deed}]
	switch {
	case at < a.Since:
		return api.Alarm{}, api.ErrPast
	case !makes:
		return api.Alarm{}, api.ErrPhase
	case (deed == 2 || deed == 6) && at < a.Until:
		return api.Alarm{}, api.ErrEarly
	}
	a.Phase, a.Until = phase, at
	if deed == 4 {
		a.Until += long
	}
	if deed == 6 {
		a.Until += waits[a.Prio]
	}
	return a, api.OK
}

func TestDoOfAll(t *testing.T) {
	for _, a := range right() {
		for _, deed := range []int{2, 3, 4, 6} {
			for _, at := range around(a) {
				for _, long := range []int{1, 2, 500, 1000} {
					want, wantE := doneByHand(a, deed, at, long)
					b, e := Do(a, deed, at, long)
					if b != want || e != wantE {
						t.Errorf("P6.3: Do(%+v, %d, %d, %d): %+v, %d, not %+v, %d", a, deed, at, long, b, e, want, wantE)
					}
					if e == api.OK && !Is(b) {
						t.Errorf("P6.5: Do(%+v, %d, %d, %d) is not right: %+v", a, deed, at, long, b)
					}
				}
			}
		}
	}
}

func TestPass(t *testing.T) {
	for i, x := range []struct {
		a    api.Alarm
		at   int
		want api.Alarm
	}{
		{one(1, 2, 100, 130), 129, one(1, 2, 100, 130)},
		{one(1, 2, 100, 130), 130, one(2, 2, 100, 130)},
		{one(1, 2, 100, 130), 131, one(2, 2, 100, 130)},
		{one(1, 2, 100, 130), 99, one(1, 2, 100, 130)},
		{one(1, 2, 100, 130), -1, one(1, 2, 100, 130)},
		{one(1, 2, 100, 130), math.MinInt, one(1, 2, 100, 130)},
		{one(1, 2, 100, 130), math.MaxInt, one(2, 2, 100, 130)},
		{one(1, 2, 0, 0), -1, one(1, 2, 0, 0)},
		{one(1, 2, 0, 0), 0, one(2, 2, 0, 0)},
		{one(2, 2, 100, 130), math.MaxInt, one(2, 2, 100, 130)},
		{one(3, 2, 100, 130), math.MaxInt, one(3, 2, 100, 130)},
		{one(4, 2, 100, 115), 114, one(4, 2, 100, 115)},
		{one(4, 2, 100, 115), 115, one(1, 2, 100, 145)},
		{one(4, 2, 100, 115), 144, one(1, 2, 100, 145)},
		{one(4, 2, 100, 115), 145, one(2, 2, 100, 145)},
		{one(4, 2, 100, 115), math.MaxInt, one(2, 2, 100, 145)},
		{one(4, 1, 100, 115), 124, one(1, 1, 100, 125)},
		{one(4, 1, 100, 115), 125, one(2, 1, 100, 125)},
		{one(4, 3, 100, 115), 204, one(1, 3, 100, 205)},
		{one(4, 3, 100, 115), 205, one(2, 3, 100, 205)},
		// No number is too great for a time.
		{one(1, 2, 100, lastTime+1), lastTime, one(1, 2, 100, lastTime+1)},
		{one(1, 2, 100, lastTime+1), lastTime + 1, one(2, 2, 100, lastTime+1)},
		{one(1, 2, lastTime, latest), latest - 1, one(1, 2, lastTime, latest)},
		{one(1, 2, lastTime, latest), latest, one(2, 2, lastTime, latest)},
		{one(4, 3, 100, lastTime), lastTime + 89, one(1, 3, 100, lastTime+90)},
		{one(4, 3, 100, lastTime), lastTime + 90, one(2, 3, 100, lastTime+90)},
		{one(4, 3, lastTime, latest), latest - 1, one(4, 3, lastTime, latest)},
		{one(4, 3, lastTime, latest), latest, one(1, 3, lastTime, latest+90)},
		{one(4, 3, lastTime, latest), latest + 89, one(1, 3, lastTime, latest+90)},
		{one(4, 3, lastTime, latest), latest + 90, one(2, 3, lastTime, latest+90)},
		{one(4, 1, lastTime, latest), math.MaxInt, one(2, 1, lastTime, latest+10)},
	} {
		if a := Pass(x.a, x.at); a != x.want {
			t.Errorf("P6.4: %d: Pass(%+v, %d): %+v, not %+v", i, x.a, x.at, a, x.want)
		}
	}
}

func TestPassOfWrong(t *testing.T) {
	for _, a := range append(wrong(), api.Alarm{}) {
		for _, at := range []int{math.MinInt, 0, 100, 200, lastTime, latest, latest + 90, math.MaxInt} {
			if b := Pass(a, at); b != a {
				t.Errorf("P6.4: Pass(%+v, %d): %+v", a, at, b)
			}
		}
	}
}

// TestPassIsDo: within the times, Pass is nothing but the deeds of time at their Until.
func TestPassIsDo(t *testing.T) {
	for _, a := range right() {
		for _, at := range around(a) {
			want := a
			for _, deed := range []int{6, 2} {
				if want.Until > at {
					break
				}
				if b, e := Do(want, deed, want.Until, 0); e == api.OK {
					want = b
				}
			}
			if b := Pass(a, at); b != want {
				t.Errorf("P6.4: Pass(%+v, %d): %+v, not %+v", a, at, b, want)
			}
		}
	}
}

func TestPassGoesOn(t *testing.T) {
	for _, a := range right() {
		times := append(around(a), -1, latest, latest+1, latest+90, math.MaxInt, math.MinInt)
		for _, first := range times {
			half := Pass(a, first)
			if half.Spot != a.Spot || half.Prio != a.Prio || half.Since != a.Since {
				t.Errorf("P6.5: Pass(%+v, %d) turned more: %+v", a, first, half)
			}
			// Until is at most one wait later: but for that, what passes is right.
			if Is(half) != (half.Until <= latest) || half.Until > latest+90 {
				t.Errorf("P6.5: Pass(%+v, %d): %+v", a, first, half)
			}
			for _, later := range times {
				if later < first || !Is(half) {
					continue
				}
				if b, c := Pass(half, later), Pass(a, later); b != c {
					t.Errorf("P6.5: %+v, Pass till %d, then %d: %+v, not %+v", a, first, later, b, c)
				}
			}
		}
	}
}

// TestAllThatIsDoneIsRight walks from an alarm by all that can be done to it, three steps far.
func TestAllThatIsDoneIsRight(t *testing.T) {
	var walk func(a api.Alarm, steps int)
	walk = func(a api.Alarm, steps int) {
		if !Is(a) || a.Spot != here {
			t.Fatalf("P6.5: %+v is not right", a)
		}
		if steps == 0 {
			return
		}
		for _, at := range []int{a.Since, a.Since + 7, a.Until, lastTime} {
			for prio := 1; prio <= 3; prio++ {
				if b, e := Raise(a, prio, at); e == api.OK {
					walk(b, steps-1)
				}
			}
			for _, deed := range []int{2, 3, 4, 6} {
				if b, e := Do(a, deed, at, 1000); e == api.OK {
					walk(b, steps-1)
				}
			}
			walk(Pass(a, at), steps-1)
		}
	}
	for _, at := range []int{0, 100, lastTime - 8, lastTime} {
		a, _ := Open(here, 3, at)
		walk(a, 3)
	}
}

func TestExamples(t *testing.T) {
	a, e := Open(api.Spot{Bed: 1}, 2, 100)
	b, f := Do(a, 4, 110, 5)
	if e != api.OK || f != api.OK {
		t.Fatalf("examples: %d, %d", e, f)
	}
	for i, x := range []struct {
		a                api.Alarm
		at, phase, until int
	}{{a, 129, 1, 130}, {a, 130, 2, 130}, {b, 144, 1, 145}, {b, 145, 2, 145}} {
		if c := Pass(x.a, x.at); c.Phase != x.phase || c.Until != x.until {
			t.Errorf("P6.4: example %d: %+v", i, c)
		}
	}
}

func FuzzAlarm(f *testing.F) {
	for _, a := range right() {
		f.Add(a.Spot.Bed, a.Spot.Channel, a.Phase, a.Prio, a.Since, a.Until, 4, a.Since, 5)
	}
	f.Add(0, 0, 0, 0, 0, math.MaxInt, math.MinInt, math.MaxInt, math.MaxInt)
	f.Fuzz(func(t *testing.T, bed, channel, phase, prio, since, until, n, at, long int) {
		a := api.Alarm{Spot: api.Spot{Bed: bed, Channel: channel}, Phase: phase, Prio: prio, Since: since, Until: until}
		b, e := Do(a, n, at, long)
		c, g := Raise(a, n, at)
		for _, x := range []struct {
			a api.Alarm
			e api.Errno
		}{{b, e}, {c, g}} {
			if x.e == api.OK && !Is(x.a) || x.e != api.OK && x.a != (api.Alarm{}) || !Is(a) && x.e != api.ErrArg {
				t.Errorf("P6.5: of %+v, %d at %d: %+v, %d", a, n, at, x.a, x.e)
			}
		}
		if d := Pass(a, at); !Is(a) && d != a || Is(a) && d.Until <= at && d.Phase != 2 && d.Phase != 3 {
			t.Errorf("P6.4: Pass(%+v, %d): %+v", a, at, d)
		}
	})
}
