package spot

import (
	"math"
	"slices"
	"strings"
	"testing"

	"watchman/api"
)

// spots are ones that may be, their numbers and texts, by hand.
var spots = []struct {
	s    api.Spot
	n    int
	text string
}{
	{api.Spot{Bed: 1, Channel: 0}, 0, "1/0"},
	{api.Spot{Bed: 1, Channel: 1}, 1, "1/1"},
	{api.Spot{Bed: 1, Channel: 7}, 7, "1/7"},
	{api.Spot{Bed: 2, Channel: 0}, 8, "2/0"},
	{api.Spot{Bed: 9, Channel: 7}, 71, "9/7"},
	{api.Spot{Bed: 10, Channel: 0}, 72, "10/0"},
	{api.Spot{Bed: 12, Channel: 3}, 91, "12/3"},
	{api.Spot{Bed: 50, Channel: 4}, 396, "50/4"},
	{api.Spot{Bed: 98, Channel: 7}, 783, "98/7"},
	{api.Spot{Bed: 99, Channel: 0}, 784, "99/0"},
	{api.Spot{Bed: 99, Channel: 7}, 791, "99/7"},
}

// noSpots may not be.
var noSpots = []api.Spot{
	{Bed: 0, Channel: 0},
	{Bed: 0, Channel: 7},
	{Bed: -1, Channel: 0},
	{Bed: -12, Channel: 3},
	{Bed: 100, Channel: 0},
	{Bed: 100, Channel: 7},
	{Bed: 1, Channel: -1},
	{Bed: 1, Channel: 8},
	{Bed: 2, Channel: -8},
	{Bed: 99, Channel: -1},
	{Bed: 99, Channel: 8},
	{Bed: 0, Channel: 8},
	{Bed: 1<<32 + 1, Channel: 0},
	{Bed: 1, Channel: 1 << 32},
	{Bed: 256 + 12, Channel: 3},
	{Bed: 12, Channel: 256 + 3},
	{Bed: math.MaxInt, Channel: 0},
	{Bed: math.MinInt, Channel: 0},
	{Bed: 1, Channel: math.MaxInt},
	{Bed: 1, Channel: math.MinInt},
	{Bed: math.MinInt, Channel: math.MaxInt},
	// Were they no further bounded, these would have the number of another spot.
	{Bed: 3, Channel: -5},
	{Bed: 1, Channel: 91},
	{Bed: 1<<61 + 1, Channel: 0},
}

// noTexts are texts of no spot.
var noTexts = []string{
	"", "/", "//", "1", "12", "1/", "/1", "/0", "1//0", "1/0/", "/1/0", "1/0/0", "1/0/1/0",
	"01/0", "001/0", "1/00", "1/01", "012/3", "12/03", "00/0", "0/0", "0/7", "1/8", "1/9", "1/10", "1/77", "12/30", "99/8",
	"100/0", "101/1", "199/7", "999/0", "1000/0", "012/03",
	"+1/0", "1/+0", "-1/0", "1/-0", "1/-1", "-0/0", "+12/+3", "0x1/0", "1/0x1", "0b1/0", "0o1/0", "1_2/3", "12/3_", "_1/0",
	" 1/0", "1/0 ", "1 /0", "1/ 0", "\t1/0", "1/0\n", "1/0\r\n", "\x001/0", "1/0\x00", "1\x00/0",
	"a/0", "1/a", "a", "a/b", "1a/0", "1/0a", "1.0/0", "1e1/0", "1/0.0", "1:0", "1-0", "1\\0", "12,3", "123",
	"\xd9\xa1/0", "1/\xd9\xa0", "\xef\xbc\x91/\xef\xbc\x90", "1\xe2\x88\x950", "\xff/\xff",
	"18446744073709551617/0", "1/18446744073709551616", "4294967297/0", "1/4294967296", "257/0", "9223372036854775807/0", "-9223372036854775808/0", "9223372036854775808/0",
	strings.Repeat("0", 3000) + "1/0", "1/" + strings.Repeat("0", 3000), strings.Repeat("9", 3000) + "/0", strings.Repeat("/", 3000),
}

// all are the spots that may be, rising.
func all() []api.Spot {
	var l []api.Spot
	for bed := 1; bed <= 99; bed++ {
		for channel := 0; channel <= 7; channel++ {
			l = append(l, api.Spot{Bed: bed, Channel: channel})
		}
	}
	return l
}

func TestIs(t *testing.T) {
	for _, x := range spots {
		if !Is(x.s) {
			t.Errorf("P4.1: Is(%v): false", x.s)
		}
	}
	for _, s := range noSpots {
		if Is(s) {
			t.Errorf("P4.1: Is(%v): true", s)
		}
	}
	may := all()
	for bed := -20; bed <= 220; bed++ {
		for channel := -20; channel <= 20; channel++ {
			s := api.Spot{Bed: bed, Channel: channel}
			if Is(s) != slices.Contains(may, s) {
				t.Errorf("P4.1: Is(%v): %v", s, Is(s))
			}
		}
	}
}

func TestNumber(t *testing.T) {
	for _, x := range spots {
		if n, e := Number(x.s); n != x.n || e != api.OK {
			t.Errorf("P4.1: Number(%v): %d, %d, not %d", x.s, n, e, x.n)
		}
	}
	for _, s := range noSpots {
		if n, e := Number(s); n != 0 || e != api.ErrArg {
			t.Errorf("P4.1: Number(%v): %d, %d", s, n, e)
		}
	}
}

func TestAt(t *testing.T) {
	for _, x := range spots {
		if s, e := At(x.n); s != x.s || e != api.OK {
			t.Errorf("P4.1: At(%d): %v, %d, not %v", x.n, s, e, x.s)
		}
	}
	for _, n := range []int{-1, -2, -8, -792, 792, 793, 800, 1 << 31, 1 << 32, 1<<32 + 91, math.MaxInt, math.MaxInt - 7, math.MinInt, math.MinInt + 91} {
		if s, e := At(n); s != (api.Spot{}) || e != api.ErrArg {
			t.Errorf("P4.1: At(%d): %v, %d", n, s, e)
		}
	}
}

func TestPrint(t *testing.T) {
	for _, x := range spots {
		if text, e := Print(x.s); text != x.text || e != api.OK {
			t.Errorf("P4.2: Print(%v): %q, %d, not %q", x.s, text, e, x.text)
		}
	}
	for _, s := range noSpots {
		if text, e := Print(s); text != "" || e != api.ErrArg {
			t.Errorf("P4.2: Print(%v): %q, %d", s, text, e)
		}
	}
}

func TestParse(t *testing.T) {
	for _, x := range spots {
		if s, e := Parse(x.text); s != x.s || e != api.OK {
			t.Errorf("P4.2: Parse(%q): %v, %d, not %v", x.text, s, e, x.s)
		}
	}
	for _, text := range noTexts {
		if s, e := Parse(text); s != (api.Spot{}) || e != api.ErrForm {
			t.Errorf("P4.2: Parse(%.40q): %v, %d", text, s, e)
		}
	}
}

// hand tells the text of a spot digit by digit.
func hand(s api.Spot) string {
	text := ""
	if s.Bed > 9 {
		text = string(rune('0' + s.Bed/10))
	}
	return text + string(rune('0'+s.Bed%10)) + "/" + string(rune('0'+s.Channel))
}

func TestParseOfAllShortTexts(t *testing.T) {
	texts := map[string]api.Spot{}
	for _, s := range all() {
		texts[hand(s)] = s
	}
	const letters = "/0123456789+- a_\xff"
	found := 0
	var try func(text string)
	try = func(text string) {
		s, e := Parse(text)
		want, ok := texts[text]
		if s != want || (e == api.OK) != ok || !ok && e != api.ErrForm {
			t.Errorf("P4.2: Parse(%q): %v, %d", text, s, e)
		}
		if e == api.OK {
			found++
		}
		if len(text) == 5 {
			return
		}
		for i := range len(letters) {
			try(text + letters[i:i+1])
		}
	}
	try("")
	if found != 792 {
		t.Errorf("P4.2: %d texts are parsed", found)
	}
}

func TestLess(t *testing.T) {
	// Rising: each is less than all behind it, and than none else.
	rising := []api.Spot{
		{Bed: math.MinInt, Channel: math.MinInt},
		{Bed: math.MinInt, Channel: math.MaxInt},
		{Bed: -5, Channel: 9},
		{Bed: 0, Channel: 0},
		{Bed: 0, Channel: 100},
		{Bed: 1, Channel: math.MinInt},
		{Bed: 1, Channel: -1},
		{Bed: 1, Channel: 0},
		{Bed: 1, Channel: 7},
		{Bed: 1, Channel: 8},
		{Bed: 1, Channel: math.MaxInt},
		{Bed: 2, Channel: -9},
		{Bed: 2, Channel: 0},
		{Bed: 9, Channel: 7},
		{Bed: 10, Channel: 0},
		{Bed: 99, Channel: 7},
		{Bed: 100, Channel: 0},
		{Bed: math.MaxInt, Channel: math.MinInt},
		{Bed: math.MaxInt, Channel: 0},
		{Bed: math.MaxInt, Channel: math.MaxInt},
	}
	for i, a := range rising {
		for j, b := range rising {
			if Less(a, b) != (i < j) {
				t.Errorf("P4.2: Less(%v, %v): %v", a, b, Less(a, b))
			}
		}
	}
}

func TestBeds(t *testing.T) {
	for i, x := range []struct {
		l    []api.Spot
		beds []int
	}{
		{nil, nil},
		{[]api.Spot{}, nil},
		{[]api.Spot{{}}, nil},
		{noSpots, nil},
		{[]api.Spot{{Bed: 7, Channel: 3}}, []int{7}},
		{[]api.Spot{{Bed: 1}, {Bed: 99, Channel: 7}}, []int{1, 99}},
		{[]api.Spot{{Bed: 7}, {Bed: 7}, {Bed: 7, Channel: 1}}, []int{7}},
		{[]api.Spot{{Bed: 10}, {Bed: 9}, {Bed: 2}, {Bed: 9, Channel: 5}, {Bed: 10, Channel: 7}, {Bed: 99}}, []int{2, 9, 10, 99}},
		{[]api.Spot{{Bed: 3, Channel: 1}, {Bed: 2, Channel: 7}, {Bed: 500}, {Bed: 3}}, []int{2, 3}},
		{[]api.Spot{{Bed: 5, Channel: 8}, {Bed: 4}, {Bed: 6, Channel: -1}, {Bed: 0}, {Bed: 100}}, []int{4}},
		{[]api.Spot{{Bed: 5, Channel: 8}, {Bed: 5}}, []int{5}},
		{[]api.Spot{{Bed: 5}, {Bed: 5, Channel: 8}}, []int{5}},
	} {
		if beds := Beds(x.l...); !slices.Equal(beds, x.beds) {
			t.Errorf("P4.2: Beds, %d: %v, not %v", i, beds, x.beds)
		}
	}
	if beds := Beds(); len(beds) != 0 {
		t.Errorf("P4.2: Beds of nothing: %v", beds)
	}
}

func TestBedsOfMany(t *testing.T) {
	l := append(all(), noSpots...)
	slices.Reverse(l)
	l = append(l, l...)
	var want []int
	for bed := 1; bed <= 99; bed++ {
		want = append(want, bed)
	}
	if beds := Beds(l...); !slices.Equal(beds, want) {
		t.Errorf("P4.2: Beds of all: %v", beds)
	}
}

func TestBedsAreNew(t *testing.T) {
	l := []api.Spot{{Bed: 9}, {Bed: 200}, {Bed: 2, Channel: 1}, {Bed: 9}, {Bed: 2}}
	was := slices.Clone(l)
	a := Beds(l...)
	b := Beds(l...)
	if !slices.Equal(l, was) {
		t.Errorf("R2: Beds changed its list: %v", l)
	}
	for i := range a {
		a[i] = -1
	}
	_ = append(a[:1], -2, -2, -2)
	if !slices.Equal(b, []int{2, 9}) || !slices.Equal(l, was) {
		t.Errorf("R2: Beds' lists share memory: %v, %v", b, l)
	}
}

func TestNumbersRiseAsSpotsDo(t *testing.T) {
	l := all()
	if len(l) != 792 {
		t.Fatalf("P4.3: %d spots", len(l))
	}
	for i, s := range l {
		n, e := Number(s)
		back, f := At(i)
		if n != i || e != api.OK || back != s || f != api.OK {
			t.Errorf("P4.3: spot %v: number %d, %d; At(%d): %v, %d", s, n, e, i, back, f)
		}
	}
	for _, a := range l {
		m, _ := Number(a)
		for _, b := range l {
			if n, _ := Number(b); Less(a, b) != (m < n) {
				t.Fatalf("P4.3: %v of number %d, %v of number %d: Less %v", a, m, b, n, Less(a, b))
			}
		}
	}
}

func TestPrintedIsParsed(t *testing.T) {
	for _, s := range all() {
		text, e := Print(s)
		if text != hand(s) || e != api.OK {
			t.Errorf("P4.3: Print(%v): %q, %d", s, text, e)
		}
		if back, e := Parse(text); back != s || e != api.OK {
			t.Errorf("P4.3: %v printed %q, parsed %v, %d", s, text, back, e)
		}
	}
}

func FuzzParse(f *testing.F) {
	for _, x := range spots {
		f.Add(x.text)
	}
	for _, text := range noTexts {
		f.Add(text)
	}
	f.Fuzz(func(t *testing.T, text string) {
		s, e := Parse(text)
		if e != api.OK {
			if s != (api.Spot{}) || e != api.ErrForm {
				t.Errorf("P4.2: Parse(%q): %v, %d", text, s, e)
			}
			return
		}
		if back, e := Print(s); back != text || e != api.OK {
			t.Errorf("P4.3: %q parsed %v, printed %q, %d", text, s, back, e)
		}
	})
}
