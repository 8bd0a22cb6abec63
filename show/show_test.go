package show

import (
	"math"
	"math/rand"
	"regexp"
	"slices"
	"strconv"
	"strings"
	"testing"

	"watchman/api"
	"watchman/mute"
	"watchman/rank"
)

const (
	lastTime = 1000000000
	latest   = 1000002000
)

// noTimes are numbers that are no time: some would be one, were they cut to fewer bits.
var noTimes = []int{-1, -2, -100, lastTime + 1, latest, 1 << 31, 1 << 32, 1<<32 + 5, -1 << 32, math.MaxInt, math.MinInt}

func at(bed, channel, phase, prio, since, until int) api.Alarm {
	return api.Alarm{Spot: api.Spot{Bed: bed, Channel: channel}, Phase: phase, Prio: prio, Since: since, Until: until}
}

func boardOf(most, now int, l ...api.Alarm) api.Board {
	return api.Board{Most: most, Now: now, Alarms: l}
}

func of(bed, from, to int) api.Window { return api.Window{Bed: bed, From: from, To: to} }

// told are right alarms and their lines, by hand.
func told() map[string]api.Alarm {
	return map[string]api.Alarm{
		"12/3 escalated 1 5 15":                 at(12, 3, 2, 1, 5, 15),
		"1/0 raised 1 0 0":                      at(1, 0, 1, 1, 0, 0),
		"1/0 raised 1 0 10":                     at(1, 0, 1, 1, 0, 10),
		"1/7 escalated 2 9 9":                   at(1, 7, 2, 2, 9, 9),
		"2/0 acked 3 10 10":                     at(2, 0, 3, 3, 10, 10),
		"9/7 silenced 1 99 100":                 at(9, 7, 4, 1, 99, 100),
		"10/0 silenced 2 101 110":               at(10, 0, 4, 2, 101, 110),
		"98/7 acked 2 1000 20000":               at(98, 7, 3, 2, 1000, 20000),
		"99/0 escalated 3 999999999 999999999":  at(99, 0, 2, 3, lastTime-1, lastTime-1),
		"99/7 silenced 3 1000000000 1000002000": at(99, 7, 4, 3, lastTime, latest),
		"99/7 raised 3 1000000000 1000000000":   at(99, 7, 1, 3, lastTime, lastTime),
		"50/4 acked 2 0 1000002000":             at(50, 4, 3, 2, 0, latest),
	}
}

// wrongAlarms have one fault each.
func wrongAlarms() []api.Alarm {
	l := []api.Alarm{
		{},
		at(0, 0, 1, 1, 5, 15), at(-1, 0, 1, 1, 5, 15), at(100, 0, 1, 1, 5, 15), at(1<<32+1, 0, 1, 1, 5, 15), at(math.MinInt, 0, 1, 1, 5, 15),
		at(1, -1, 1, 1, 5, 15), at(1, 8, 1, 1, 5, 15), at(1, 256, 1, 1, 5, 15), at(1, math.MaxInt, 1, 1, 5, 15),
		at(1, 0, 0, 1, 5, 15), at(1, 0, -1, 1, 5, 15), at(1, 0, 5, 1, 5, 15), at(1, 0, 256+1, 1, 5, 15), at(1, 0, math.MaxInt, 1, 5, 15), at(1, 0, math.MinInt, 1, 5, 15),
		at(1, 0, 1, 0, 5, 15), at(1, 0, 1, -1, 5, 15), at(1, 0, 1, 4, 5, 15), at(1, 0, 1, 1<<32+1, 5, 15), at(1, 0, 1, math.MinInt, 5, 15),
		at(1, 0, 1, 1, 5, 4), at(1, 0, 1, 1, 5, 0), at(1, 0, 1, 1, 5, -1), at(1, 0, 1, 1, 5, latest+1), at(1, 0, 1, 1, 5, math.MaxInt), at(1, 0, 1, 1, 5, math.MinInt),
	}
	for _, n := range noTimes {
		l = append(l, at(1, 0, 1, 1, n, latest), at(1, 0, 1, 1, n, n))
	}
	return l
}

// noLines are texts that are no alarm's line.
func noLines() []string {
	l := []string{
		"", " ", "    ", "     ", "1/0", "raised", "1/0 raised", "1/0 raised 1", "1/0 raised 1 5", "1/0 raised 1 5 ", "raised 1 5 15", "1/0 1 5 15",
		// Blanks where none are, none where they are, and others.
		" 1/0 raised 1 5 15", "1/0 raised 1 5 15 ", "1/0  raised 1 5 15", "1/0 raised  1 5 15", "1/0 raised 1  5 15", "1/0 raised 1 5  15", "  1/0 raised 1 5 15",
		"1/0\traised 1 5 15", "1/0 raised 1 5\t15", "1/0\nraised 1 5 15", "1/0 raised 1 5 15\n", "1/0 raised 1 5 15\r\n", "\n1/0 raised 1 5 15", "1/0\u00a0raised 1 5 15", "1/0raised 1 5 15", "1/0 raised1 5 15", "1/0 raised 15 15", "1 /0 raised 1 5 15", "1/ 0 raised 1 5 15",
		// More behind.
		"1/0 raised 1 5 15 20", "1/0 raised 1 5 15 1/0 raised 1 5 15", "1/0 raised 1 5 15x", "1/0 raised 1 5 15\x00", "1/0 raised 1 5 15;",
		// Spots.
		"0/0 raised 1 5 15", "100/0 raised 1 5 15", "1/8 raised 1 5 15", "01/0 raised 1 5 15", "1/00 raised 1 5 15", "+1/0 raised 1 5 15", "1/-0 raised 1 5 15", "1 raised 1 5 15", "1/ raised 1 5 15", "/0 raised 1 5 15", "/ raised 1 5 15", "1/0/0 raised 1 5 15", "1:0 raised 1 5 15", "a/0 raised 1 5 15", "4294967297/0 raised 1 5 15", " raised 1 5 15",
		// Phases.
		"1/0 quiet 1 5 15", "1/0 Raised 1 5 15", "1/0 RAISED 1 5 15", "1/0 raise 1 5 15", "1/0 raisedd 1 5 15", "1/0 1 1 5 15", "1/0 none 1 5 15", "1/0  1 5 15", "1/0 ack 1 5 15", "1/0 silence 1 5 15", "1/0 cleared 1 5 15", "1/0 r\x00aised 1 5 15", "1/0 \xff 1 5 15",
		// Priorities.
		"1/0 raised 0 5 15", "1/0 raised 4 5 15", "1/0 raised -1 5 15", "1/0 raised +1 5 15", "1/0 raised 01 5 15", "1/0 raised 10 5 15", "1/0 raised 1.0 5 15", "1/0 raised x 5 15", "1/0 raised 4294967297 5 15", "1/0 raised 18446744073709551617 5 15", "1/0 raised \xef\xbc\x91 5 15",
		// Since.
		"1/0 raised 1 05 15", "1/0 raised 1 00 15", "1/0 raised 1 +5 15", "1/0 raised 1 -5 15", "1/0 raised 1 -0 15", "1/0 raised 1 5.0 15", "1/0 raised 1 0x5 15", "1/0 raised 1 5_0 150", "1/0 raised 1 16 15", "1/0 raised 1 x 15", "1/0 raised 1  15", "1/0 raised 1 1000000001 1000002000", "1/0 raised 1 1e1 15", "1/0 raised 1 18446744073709551621 15", "1/0 raised 1 \xd9\xa5 15",
		// Until.
		"1/0 raised 1 5 4", "1/0 raised 1 5 0", "1/0 raised 1 5 015", "1/0 raised 1 5 +15", "1/0 raised 1 5 -15", "1/0 raised 1 0 -0", "1/0 raised 1 0 00", "1/0 raised 1 5 15.", "1/0 raised 1 5 x", "1/0 raised 1 5 1000002001", "1/0 raised 1 5 4294967311", "1/0 raised 1 5 9223372036854775807", "1/0 raised 1 5 9223372036854775808", "1/0 raised 1 5 18446744073709551631", "1/0 raised 1 5 99999999999999999999", "1/0 raised 1 -9223372036854775808 15",
		// Words in another order.
		"raised 1/0 1 5 15", "1/0 1 raised 5 15", "15 5 1 raised 1/0",
	}
	return append(l,
		strings.Repeat(" ", 5000),
		strings.Repeat("1/0 ", 5000),
		"1/0 raised 1 5 "+strings.Repeat("0", 3000)+"15",
		"1/0 raised 1 5 "+strings.Repeat("9", 3000),
		"1/0 raised 1 5 15"+strings.Repeat(" ", 3000),
		strings.Repeat("1/0 raised 1 5 15 ", 300),
	)
}

// form is a line's, but for how great its last two numbers may be.
var form = regexp.MustCompile(`\A([1-9][0-9]?)/([0-7]) (raised|escalated|acked|silenced) ([123]) (0|[1-9][0-9]{0,9}) (0|[1-9][0-9]{0,9})\z`)

// readByHand tells the alarm whose line s is.
func readByHand(s string) (api.Alarm, bool) {
	m := form.FindStringSubmatch(s)
	if m == nil {
		return api.Alarm{}, false
	}
	number := func(i int) int {
		n, _ := strconv.Atoi(m[i])
		return n
	}
	phases := map[string]int{"raised": 1, "escalated": 2, "acked": 3, "silenced": 4}
	a := at(number(1), number(2), phases[m[3]], number(4), number(5), number(6))
	if a.Since > lastTime || a.Until < a.Since || a.Until > latest {
		return api.Alarm{}, false
	}
	return a, true
}

// checkParse holds Parse of s against what is read by hand.
func checkParse(t *testing.T, s string) {
	t.Helper()
	want, ok := readByHand(s)
	f := api.OK
	if !ok {
		f = api.ErrForm
	}
	if a, e := Parse(s); e != f || a != want {
		t.Errorf("P11.1: Parse(%.60q): %+v, %d, want %+v, %d", s, a, e, want, f)
	}
}

func TestLine(t *testing.T) {
	for s, a := range told() {
		if l, e := Line(a); e != api.OK || l != s {
			t.Errorf("P11.1: Line(%+v): %q, %d, want %q", a, l, e, s)
		}
		if b, e := Parse(s); e != api.OK || b != a {
			t.Errorf("P11.1: Parse(%q): %+v, %d, want %+v", s, b, e, a)
		}
	}
}

func TestLineWrong(t *testing.T) {
	for _, a := range wrongAlarms() {
		if l, e := Line(a); e != api.ErrArg || l != "" {
			t.Errorf("P11.1: Line(%+v): %q, %d", a, l, e)
		}
	}
}

func TestParseWrong(t *testing.T) {
	for _, s := range noLines() {
		if a, e := Parse(s); e != api.ErrForm || a != (api.Alarm{}) {
			t.Errorf("P11.1: Parse(%.60q): %+v, %d", s, a, e)
		}
	}
}

// TestParseNear asks all texts that are one byte, one word or one end away from a line.
func TestParseNear(t *testing.T) {
	for s := range told() {
		for i := range len(s) + 1 {
			checkParse(t, s[:i])
			checkParse(t, s[i:])
			if i < len(s) {
				checkParse(t, s[:i]+s[i+1:])
			}
			for c := range 256 {
				x := string([]byte{byte(c)})
				checkParse(t, s[:i]+x+s[i:])
				if i < len(s) {
					checkParse(t, s[:i]+x+s[i+1:])
				}
			}
		}
		words := strings.Split(s, " ")
		for i := range words {
			for _, w := range []string{"", " ", "0", "1", "00", "-1", "1/0", "raised", "quiet", "4", "1000000000", "1000000001", "1000002000", "1000002001"} {
				l := slices.Clone(words)
				l[i] = w
				checkParse(t, strings.Join(l, " "))
			}
		}
	}
}

func TestCount(t *testing.T) {
	var odd []api.Alarm
	for _, phase := range []int{-1, -5, 5, 6, 256, 1 << 32, 1<<32 + 1, math.MaxInt, math.MinInt} {
		odd = append(odd, api.Alarm{Phase: phase})
	}
	row := func(many ...int) []api.Alarm {
		var l []api.Alarm
		for phase, n := range many {
			for range n {
				l = append(l, api.Alarm{Phase: phase})
			}
		}
		return l
	}
	for i, c := range []struct {
		b    api.Board
		want [5]int
	}{
		{api.Board{}, [5]int{}},
		{boardOf(5, 7), [5]int{}},
		{api.Board{Most: 5, Alarms: []api.Alarm{}}, [5]int{}},
		{boardOf(5, 20, at(1, 0, 1, 1, 5, 15)), [5]int{0, 1, 0, 0, 0}},
		{boardOf(5, 20, at(1, 0, 3, 1, 5, 15), at(2, 0, 1, 1, 5, 15), at(3, 0, 1, 1, 5, 15), at(4, 0, 2, 1, 5, 15), at(5, 0, 4, 1, 5, 15)), [5]int{0, 2, 1, 1, 1}},
		// A board that is not right is counted all the same, and so is what is QUIET.
		{boardOf(0, -1, api.Alarm{}), [5]int{1, 0, 0, 0, 0}},
		{boardOf(1, 0, row(1, 2, 3, 4, 5)...), [5]int{1, 2, 3, 4, 5}},
		{boardOf(1, 0, row(300, 0, 0, 0, 70000)...), [5]int{300, 0, 0, 0, 70000}},
		{boardOf(1, 0, odd...), [5]int{}},
		{boardOf(1, 0, slices.Concat(odd, row(0, 1, 1, 0, 2), odd)...), [5]int{0, 1, 1, 0, 2}},
	} {
		if n := Count(c.b); n != c.want {
			t.Errorf("P11.1: Count %d: %v, want %v", i, n, c.want)
		}
	}
}

// some is a board at 20, its alarms of each phase, two of them at one bed.
func some() api.Board {
	return boardOf(9, 20,
		at(1, 0, 3, 1, 5, 15),
		at(2, 0, 1, 2, 5, 35),
		at(2, 7, 4, 1, 6, 25),
		at(3, 0, 1, 1, 20, 30),
		at(4, 0, 2, 3, 5, 15),
		at(99, 7, 1, 2, 4, 34),
	)
}

// someLines are its lines, ranked.
func someLines() []string {
	return []string{"4/0 escalated 3 5 15", "3/0 raised 1 20 30", "99/7 raised 2 4 34", "2/0 raised 2 5 35", "2/7 silenced 1 6 25", "1/0 acked 1 5 15"}
}

// but tells the lines but those at places.
func but(l []string, places ...int) []string {
	var rest []string
	for i, s := range l {
		if !slices.Contains(places, i) {
			rest = append(rest, s)
		}
	}
	return rest
}

func TestHeardAndLines(t *testing.T) {
	all := someLines()
	for i, c := range []struct {
		l    []api.Window
		want []string
	}{
		{nil, all},
		{[]api.Window{}, all},
		// At 20: from it on, till it, till behind it, and around it.
		{[]api.Window{of(4, 20, 21)}, but(all, 0)},
		{[]api.Window{of(4, 19, 20)}, all},
		{[]api.Window{of(4, 21, 22)}, all},
		{[]api.Window{of(4, 19, 21)}, but(all, 0)},
		{[]api.Window{of(4, 0, lastTime)}, but(all, 0)},
		{[]api.Window{of(4, 0, 20)}, all},
		{[]api.Window{of(4, 21, lastTime)}, all},
		{[]api.Window{of(4, 0, 20), of(4, 21, lastTime)}, all},
		{[]api.Window{of(4, 0, 19), of(4, 20, 21), of(4, 22, 23)}, but(all, 0)},
		// It is Now that counts, not what the alarm's times are.
		{[]api.Window{of(4, 5, 16)}, all},
		// A bed's alarms at all of its channels, and no other one's.
		{[]api.Window{of(2, 20, 21)}, but(all, 3, 4)},
		{[]api.Window{of(7, 0, lastTime)}, all},
		{[]api.Window{of(1, 20, 21)}, but(all, 5)},
		{[]api.Window{of(3, 20, 21)}, but(all, 1)},
		{[]api.Window{of(99, 20, 21)}, but(all, 2)},
		{[]api.Window{of(1, 0, 21), of(2, 0, 20), of(3, 21, 22), of(4, 20, 30), of(98, 0, 30)}, but(all, 0, 5)},
		{[]api.Window{of(1, 0, 21), of(2, 0, 21), of(3, 0, 22), of(4, 20, 30), of(99, 0, 30)}, nil},
	} {
		h, e := Heard(some(), c.l)
		var got []string
		for _, a := range h {
			s, f := Line(a)
			if f != api.OK || !slices.Contains(some().Alarms, a) {
				t.Errorf("P11.2: Heard %d tells %+v", i, a)
			}
			got = append(got, s)
		}
		if e != api.OK || !slices.Equal(got, c.want) {
			t.Errorf("P11.2: Heard %d: %q, %d, want %q", i, got, e, c.want)
		}
		for _, n := range []int{1, 2, 3, 4, 5, 6, 7, 200, 1 << 32, math.MaxInt} {
			l, e := Lines(some(), c.l, n)
			if want := c.want[:min(n, len(c.want))]; e != api.OK || !slices.Equal(l, want) {
				t.Errorf("P11.2: Lines %d of %d: %q, %d, want %q", n, i, l, e, want)
			}
		}
	}
}

func TestAtTheEndsOfTime(t *testing.T) {
	for i, c := range []struct {
		now  int
		l    []api.Window
		many int
	}{
		{0, []api.Window{of(1, 0, 1)}, 0},
		{0, []api.Window{of(1, 1, lastTime)}, 1},
		{lastTime - 1, []api.Window{of(1, lastTime-1, lastTime)}, 0},
		// No window can have the last time.
		{lastTime, []api.Window{of(1, 0, lastTime)}, 1},
	} {
		b := boardOf(1, c.now, at(1, 0, 1, 1, 0, 10))
		h, e := Heard(b, c.l)
		l, f := Lines(b, c.l, 1)
		if e != api.OK || f != api.OK || len(h) != c.many || len(l) != c.many {
			t.Errorf("P11.2: %d: %v, %d; %q, %d", i, h, e, l, f)
		}
	}
}

func TestOfNoAlarms(t *testing.T) {
	b := boardOf(1, 0)
	for _, l := range [][]api.Window{nil, {of(1, 0, 5)}} {
		if h, e := Heard(b, l); e != api.OK || len(h) != 0 {
			t.Errorf("P11.2: Heard of none: %v, %d", h, e)
		}
		if s, e := Lines(b, l, 1); e != api.OK || len(s) != 0 {
			t.Errorf("P11.2: Lines of none: %q, %d", s, e)
		}
		if s, e := Lines(b, l, 0); e != api.ErrArg || len(s) != 0 {
			t.Errorf("P11.2: Lines of none, 0 of them: %q, %d", s, e)
		}
	}
}

func wrongBoards() []api.Board {
	a, b := at(1, 0, 1, 1, 5, 15), at(1, 1, 2, 2, 5, 15)
	l := []api.Board{
		{},
		boardOf(0, 20),
		boardOf(-1, 20),
		boardOf(201, 20, a),
		boardOf(1<<32+1, 20, a),
		boardOf(1, 20, a, b),
		boardOf(3, 20, b, a),
		boardOf(3, 20, a, a),
		boardOf(3, 4, a),
		boardOf(3, -1),
		boardOf(3, lastTime+1, a),
		boardOf(3, math.MinInt),
		boardOf(3, math.MaxInt, a),
	}
	for _, x := range wrongAlarms() {
		l = append(l, boardOf(3, lastTime, x), boardOf(3, lastTime, at(1, 0, 1, 1, 5, 15), x))
	}
	return l
}

func wrongWindows() [][]api.Window {
	var many []api.Window
	for i := range 101 {
		many = append(many, of(5, 2*i, 2*i+1))
	}
	return [][]api.Window{
		{{}},
		{of(0, 1, 2)},
		{of(100, 1, 2)},
		{of(1, 2, 2)},
		{of(1, 3, 2)},
		{of(1, -1, 2)},
		{of(1, 1, lastTime+1)},
		{of(1<<32+1, 1, 2)},
		{of(1, math.MinInt, math.MaxInt)},
		{of(1, 1, 5), of(1, 5, 9)},
		{of(1, 1, 5), of(1, 1, 5)},
		{of(1, 7, 9), of(1, 1, 5)},
		{of(2, 1, 5), of(1, 1, 5)},
		{of(1, 1, 5), {}},
		many,
	}
}

func TestHeardAndLinesWrong(t *testing.T) {
	check := func(what string, i int, b api.Board, l []api.Window) {
		if h, e := Heard(b, l); e != api.ErrArg || len(h) != 0 {
			t.Errorf("P11.2: Heard of the wrong %s %d: %v, %d", what, i, h, e)
		}
		for _, n := range []int{1, 5, 0, -1, math.MinInt, math.MaxInt} {
			if s, e := Lines(b, l, n); e != api.ErrArg || len(s) != 0 {
				t.Errorf("P11.2: Lines, %d of the wrong %s %d: %q, %d", n, what, i, s, e)
			}
		}
	}
	for i, b := range wrongBoards() {
		check("board", i, b, nil)
		check("board", i, b, []api.Window{of(1, 0, lastTime)})
	}
	for i, l := range wrongWindows() {
		check("windows", i, some(), l)
		check("windows", i, boardOf(1, 0), l)
		check("board and windows", i, api.Board{}, l)
	}
	for _, n := range []int{0, -1, -2, -1 << 32, math.MinInt} {
		if s, e := Lines(some(), nil, n); e != api.ErrArg || len(s) != 0 {
			t.Errorf("P11.2: Lines, %d of them: %q, %d", n, s, e)
		}
	}
}

// TestToldIsParsed goes through all spots, phases and priorities.
func TestToldIsParsed(t *testing.T) {
	times := [][2]int{{0, 0}, {0, latest}, {9, 10}, {99, 100}, {5, 15}, {lastTime, lastTime}, {lastTime, latest}, {123456789, 987654321}}
	lines := map[string]bool{}
	for bed := 1; bed <= 99; bed++ {
		for channel := range 8 {
			for phase := 1; phase <= 4; phase++ {
				for prio := 1; prio <= 3; prio++ {
					for _, x := range times {
						a := at(bed, channel, phase, prio, x[0], x[1])
						s, e := Line(a)
						b, f := Parse(s)
						c, ok := readByHand(s)
						if e != api.OK || f != api.OK || b != a || !ok || c != a {
							t.Fatalf("P11.3: %+v is told %q, %d, parsed %+v, %d", a, s, e, b, f)
						}
						lines[s] = true
					}
				}
			}
		}
	}
	if want := 792 * 4 * 3 * len(times); len(lines) != want {
		t.Errorf("P11.3: %d lines of %d alarms", len(lines), want)
	}
}

// anyBoard is a right one.
func anyBoard(r *rand.Rand) api.Board {
	now := r.Intn(40)
	b := boardOf(200, now)
	for n := range 80 {
		if r.Intn(3) > 0 {
			continue
		}
		since := r.Intn(now + 1)
		b.Alarms = append(b.Alarms, at(1+n/8, n%8, 1+r.Intn(4), 1+r.Intn(3), since, since+r.Intn(30)))
	}
	return b
}

// anyWindows may be, but are right only if they are joined.
func anyWindows(r *rand.Rand, n int) []api.Window {
	var l []api.Window
	for range n {
		from := r.Intn(40)
		l = append(l, of(1+r.Intn(10), from, from+1+r.Intn(20)))
	}
	return l
}

func TestHeardOfMany(t *testing.T) {
	r := rand.New(rand.NewSource(11))
	for n := range 2000 {
		b := anyBoard(r)
		if h, e := Heard(b, nil); e != api.OK || !slices.Equal(h, rank.Sort(b.Alarms)) {
			t.Fatalf("P11.3: without windows %v, %d are heard of %+v", h, e, b)
		}
		few := anyWindows(r, n%6)
		more := anyWindows(r, 1+n%4)
		l, e := mute.Add(nil, few...)
		m, f := mute.Add(l, more...)
		if e != api.OK || f != api.OK {
			t.Fatalf("no windows to test with: %d, %d", e, f)
		}
		var want []api.Alarm
		for _, a := range rank.Sort(b.Alarms) {
			if !slices.ContainsFunc(few, func(w api.Window) bool { return w.Bed == a.Spot.Bed && w.From <= b.Now && b.Now < w.To }) {
				want = append(want, a)
			}
		}
		h, e := Heard(b, l)
		if e != api.OK || !slices.Equal(h, want) {
			t.Fatalf("P11.2: with %v %v, %d are heard, want %v", l, h, e, want)
		}
		less, e := Heard(b, m)
		for _, a := range less {
			if !slices.Contains(h, a) {
				t.Fatalf("P11.3: with more windows %+v is heard", a)
			}
		}
		if e != api.OK || len(less) > len(h) {
			t.Fatalf("P11.3: with more windows more are heard: %v, %d", less, e)
		}
		checkLines(t, b, l, 1+r.Intn(1+len(h)))
	}
}

// checkLines holds Lines of a right board and windows against the line of each that is heard.
func checkLines(t *testing.T, b api.Board, l []api.Window, n int) {
	t.Helper()
	h, _ := Heard(b, l)
	lines, e := Lines(b, l, n)
	if e != api.OK || len(lines) != min(n, len(h)) {
		t.Fatalf("P11.2: Lines, %d of %d: %q, %d", n, len(h), lines, e)
	}
	for i, s := range lines {
		if a, ok := readByHand(s); !ok || a != h[i] {
			t.Fatalf("P11.2: line %d is %q, of %+v", i, s, h[i])
		}
	}
}

// TestFull asks a board and windows as great as there can be.
func TestFull(t *testing.T) {
	b := boardOf(200, 10)
	for n := range 200 {
		b.Alarms = append(b.Alarms, at(1+n/8, n%8, 1+n%4, 1+n%3, n%11, 20))
	}
	var l []api.Window
	for n := range 100 {
		l = append(l, of(1+n/5, 4*(n%5), 4*(n%5)+3))
	}
	// Beds 1 to 20 are muted from 8 to 11.
	if h, e := Heard(b, l); e != api.OK || len(h) != 40 {
		t.Errorf("P11.2: %d are heard, %d", len(h), e)
	}
	if h, e := Heard(b, nil); e != api.OK || len(h) != 200 {
		t.Errorf("P11.2: without windows %d are heard, %d", len(h), e)
	}
	for _, n := range []int{1, 39, 40, 41, 200, 201} {
		checkLines(t, b, l, n)
		checkLines(t, b, nil, n)
	}
	if n := Count(b); n != [5]int{0, 50, 50, 50, 50} {
		t.Errorf("P11.1: Count: %v", n)
	}
}

func TestMemory(t *testing.T) {
	alarms := append(make([]api.Alarm, 0, 40), some().Alarms...)
	windows := append(make([]api.Window, 0, 40), of(4, 20, 21), of(50, 0, 9))
	wereAlarms, wereWindows := slices.Clone(alarms[:40]), slices.Clone(windows[:40])
	b := boardOf(9, 20, alarms...)
	for _, l := range [][]api.Window{nil, windows} {
		h, _ := Heard(b, l)
		again, _ := Heard(b, l)
		s, _ := Lines(b, l, 3)
		more, _ := Lines(b, l, 3)
		if !slices.Equal(h, again) || !slices.Equal(s, more) || len(s) != 3 {
			t.Errorf("R2: the same is told otherwise: %v, %v, %q, %q", h, again, s, more)
		}
		heard, lines := slices.Clone(h), slices.Clone(s)
		clear(again[:cap(again)])
		clear(more[:cap(more)])
		if !slices.Equal(h, heard) || !slices.Equal(s, lines) {
			t.Errorf("R2: two lists that come out share their memory")
		}
		clear(h[:cap(h)])
		Count(b)
		if !slices.Equal(alarms[:40], wereAlarms) || !slices.Equal(windows[:40], wereWindows) {
			t.Fatalf("R2: what is handed in does not stay as it is")
		}
	}
}

func FuzzParse(f *testing.F) {
	for s := range told() {
		f.Add(s)
	}
	for _, s := range noLines() {
		f.Add(s)
	}
	f.Fuzz(func(t *testing.T, s string) {
		checkParse(t, s)
		if a, e := Parse(s); e == api.OK {
			if l, e := Line(a); e != api.OK || l != s {
				t.Errorf("P11.3: %q is parsed %+v, told %q, %d", s, a, l, e)
			}
		}
	})
}

func FuzzLine(f *testing.F) {
	for _, a := range told() {
		f.Add(a.Spot.Bed, a.Spot.Channel, a.Phase, a.Prio, a.Since, a.Until)
	}
	for _, a := range wrongAlarms() {
		f.Add(a.Spot.Bed, a.Spot.Channel, a.Phase, a.Prio, a.Since, a.Until)
	}
	f.Fuzz(func(t *testing.T, bed, channel, phase, prio, since, until int) {
		a := at(bed, channel, phase, prio, since, until)
		s, e := Line(a)
		if e != api.OK {
			if e != api.ErrArg || s != "" {
				t.Errorf("P11.1: Line(%+v): %q, %d", a, s, e)
			}
			return
		}
		if b, ok := readByHand(s); !ok || b != a {
			t.Errorf("P11.3: %+v is told %q", a, s)
		}
	})
}
