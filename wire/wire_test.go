package wire

import (
	"math"
	"slices"
	"strings"
	"testing"

	"watchman/api"
)

// forms are numbers and their bytes, worked out by hand.
var forms = []struct {
	n int
	s string
}{
	{0, "\xff"},
	{1, "\x01\xff"},
	{-1, "\x01\xfe"},
	{7, "\x07\xff"},
	{-7, "\x07\xfe"},
	{249, "\xf9\xff"},
	{-249, "\xf9\xfe"},
	{250, "\x00\x01\xff"},
	{-250, "\x00\x01\xfe"},
	{251, "\x01\x01\xff"},
	{3000, "\x00\x0c\xff"},
	{62499, "\xf9\xf9\xff"},
	{62500, "\x00\x00\x01\xff"},
	{-62501, "\x01\x00\x01\xfe"},
	{15624999, "\xf9\xf9\xf9\xff"},
	{15625000, "\x00\x00\x00\x01\xff"},
	{2147483646, "\x92\xb8\x6d\x89\xff"},
	{2147483647, "\x93\xb8\x6d\x89\xff"},
	{-2147483647, "\x93\xb8\x6d\x89\xfe"},
}

// outside are numbers that have no bytes.
var outside = []int{api.MaxNumber + 1, -api.MaxNumber - 1, -api.MaxNumber - 2, 1 << 32, 1<<32 + 7, -1 << 40, math.MaxInt, math.MinInt}

// behinds are what may stand behind something that is read.
var behinds = []string{"", "x", "\x00", "\xfa", "\xfe", "\xff", "\xff\xfe\x00", "long, with ends \xff\xfe in it"}

// wrongs are no beginnings with a number's bytes.
var wrongs = []struct {
	s    string
	want api.Errno
}{
	{"", api.ErrMore},
	{"\x07", api.ErrMore},
	{"\x00", api.ErrMore},
	{"\xfa", api.ErrMore},
	{"\xfd\xfd", api.ErrMore},
	{"\x93\xb8\x6d\x89", api.ErrMore},
	{strings.Repeat("\xf9", 5000), api.ErrMore},
	{"\xfe", api.ErrForm},
	{"\x00\xff", api.ErrForm},
	{"\x00\xfe", api.ErrForm},
	{"\x07\x00\xff", api.ErrForm},
	{"\x07\x00\xfe", api.ErrForm},
	{"\x00\x00\x00\xff", api.ErrForm},
	{"\xfa\xff", api.ErrForm},
	{"\xfb\xfe", api.ErrForm},
	{"\xfc\x01\xff", api.ErrForm},
	{"\x01\xfd\xff", api.ErrForm},
	{"\x94\xb8\x6d\x89\xff", api.ErrForm},
	{"\x94\xb8\x6d\x89\xfe", api.ErrForm},
	{"\xf9\xf9\xf9\xf9\xff", api.ErrForm},
	{"\x00\x00\x00\x00\x01\xff", api.ErrForm},
	{"\x93\xb8\x6d\x89\x00\xff", api.ErrForm},
	{"\x01\x00\x00\x00\x00\x00\x00\x00\x00\x01\xff", api.ErrForm},
	{strings.Repeat("\x00", 64) + "\x01\xff", api.ErrForm},
	{strings.Repeat("\x00", 5000) + "\x01\xfe", api.ErrForm},
}

func TestIntLaysNumbers(t *testing.T) {
	for _, f := range forms {
		if s, e := Int(f.n); e != api.OK || s != f.s {
			t.Errorf("P1.1: Int(%d): %q, %d; want %q", f.n, s, e, f.s)
		}
	}
}

func TestIntRefusesNumbersOutside(t *testing.T) {
	for _, n := range outside {
		if s, e := Int(n); e != api.ErrArg || s != "" {
			t.Errorf("P1.1: Int(%d): %q, %d", n, s, e)
		}
	}
}

func TestIntsLaysOneBehindTheOther(t *testing.T) {
	var l []int
	want := ""
	if s, e := Ints(); e != api.OK || s != "" {
		t.Errorf("P1.1: Ints(): %q, %d", s, e)
	}
	for _, f := range forms {
		l = append(l, f.n)
		want += f.s
		if s, e := Ints(l...); e != api.OK || s != want {
			t.Errorf("P1.1: Ints(%v): %q, %d; want %q", l, s, e, want)
		}
	}
	many := make([]int, 1000)
	if s, e := Ints(many...); e != api.OK || s != strings.Repeat("\xff", 1000) {
		t.Errorf("P1.1: a thousand numbers: %d bytes, %d", len(s), e)
	}
}

func TestIntsLeavesItsListAsItIs(t *testing.T) {
	l := []int{-7, 250, 0}
	if _, e := Ints(l...); e != api.OK || !slices.Equal(l, []int{-7, 250, 0}) {
		t.Errorf("P1.1: %v, %d", l, e)
	}
}

func TestIntsRefusesOneOutside(t *testing.T) {
	for _, n := range outside {
		for _, l := range [][]int{{n}, {n, 1}, {1, n, 2}, {1, 2, n}} {
			if s, e := Ints(l...); e != api.ErrArg || s != "" {
				t.Errorf("P1.1: Ints(%v): %q, %d", l, s, e)
			}
		}
	}
}

func TestTextLaysItsLengthAndItself(t *testing.T) {
	for s, head := range map[string]string{
		"":                        "\xff",
		"abc":                     "\x03\xff",
		"\xff\xfe\x00":            "\x03\xff",
		"\u00e4":                  "\x02\xff",
		strings.Repeat("x", 249):  "\xf9\xff",
		strings.Repeat("x", 250):  "\x00\x01\xff",
		strings.Repeat("x", 2999): "\xf9\x0b\xff",
		strings.Repeat("x", 3000): "\x00\x0c\xff",
	} {
		if b, e := Text(s); e != api.OK || b != head+s {
			t.Errorf("P1.1: a text of %d bytes: %d bytes, %d", len(s), len(b), e)
		}
	}
}

func TestTextRefusesLongOnes(t *testing.T) {
	for _, n := range []int{3001, 3250, 100000} {
		if b, e := Text(strings.Repeat("x", n)); e != api.ErrLimit || b != "" {
			t.Errorf("P1.1: a text of %d bytes: %d bytes, %d", n, len(b), e)
		}
	}
}

func TestGetIntReadsNumbers(t *testing.T) {
	for _, f := range forms {
		for _, behind := range behinds {
			if n, rest, e := GetInt(f.s + behind); e != api.OK || n != f.n || rest != behind {
				t.Errorf("P1.2: GetInt(%q): %d, %q, %d", f.s+behind, n, rest, e)
			}
		}
	}
}

func TestGetIntRefusesWrongBytes(t *testing.T) {
	for _, w := range wrongs {
		if n, rest, e := GetInt(w.s); e != w.want || n != 0 || rest != "" {
			t.Errorf("P1.2: GetInt(%.20q): %d, %.20q, %d; want %d", w.s, n, rest, e, w.want)
		}
		if w.want != api.ErrForm {
			continue
		}
		for _, behind := range behinds {
			if n, rest, e := GetInt(w.s + behind); e != w.want || n != 0 || rest != "" {
				t.Errorf("P1.2: GetInt(%.20q) with %q behind: %d, %.20q, %d", w.s, behind, n, rest, e)
			}
		}
	}
}

func TestGetIntsReadsSoMany(t *testing.T) {
	s := "\x05\xff\x03\xfe\xff\x00\x01\xffz"
	for many, want := range []struct {
		l    []int
		rest string
	}{
		{nil, s},
		{[]int{5}, s[2:]},
		{[]int{5, -3}, s[4:]},
		{[]int{5, -3, 0}, s[5:]},
		{[]int{5, -3, 0, 250}, "z"},
	} {
		if l, rest, e := GetInts(s, many); e != api.OK || !slices.Equal(l, want.l) || rest != want.rest {
			t.Errorf("P1.2: GetInts(%q, %d): %v, %q, %d", s, many, l, rest, e)
		}
	}
	for _, many := range []int{99, 100} {
		l, rest, e := GetInts(strings.Repeat("\x01\xfe", many)+"z", many)
		if e != api.OK || len(l) != many || slices.Min(l) != -1 || slices.Max(l) != -1 || rest != "z" {
			t.Errorf("P1.2: GetInts of %d: %v, %q, %d", many, l, rest, e)
		}
	}
	if l, rest, e := GetInts("\x00\xff", 0); e != api.OK || len(l) != 0 || rest != "\x00\xff" {
		t.Errorf("P1.2: none of what is no number: %v, %q, %d", l, rest, e)
	}
}

func TestGetIntsRefusesWrongOnes(t *testing.T) {
	good := strings.Repeat("\xff", 200)
	for _, w := range []struct {
		s    string
		many int
		want api.Errno
	}{
		{good, -1, api.ErrArg},
		{good, 101, api.ErrArg},
		{good, math.MaxInt, api.ErrArg},
		{good, math.MinInt, api.ErrArg},
		{"", 101, api.ErrArg},
		{"\x00\xff", -1, api.ErrArg},
		{"", 1, api.ErrMore},
		{"\x05\xff\x03\xfe", 3, api.ErrMore},
		{"\x05\xff\x03", 2, api.ErrMore},
		{"\x05\xff\x00\xff\x03", 3, api.ErrForm},
		{"\x05\xff\xfe", 2, api.ErrForm},
		{"\xfa\xff\x03", 2, api.ErrForm},
	} {
		if l, rest, e := GetInts(w.s, w.many); e != w.want || len(l) != 0 || rest != "" {
			t.Errorf("P1.2: GetInts(%.20q, %d): %v, %.20q, %d; want %d", w.s, w.many, l, rest, e, w.want)
		}
	}
}

func TestGetIntsAnswersNewLists(t *testing.T) {
	s := "\x01\xff\x02\xff\x03\xff"
	first, _, _ := GetInts(s, 3)
	second, _, _ := GetInts(s, 3)
	if len(first) != 3 || len(second) != 3 {
		t.Fatalf("P1.2: %v, %v", first, second)
	}
	first[0] = 9
	_ = append(first[:1], 9, 9, 9)
	if !slices.Equal(second, []int{1, 2, 3}) {
		t.Errorf("P1.2: a list shares its memory with another one: %v", second)
	}
}

func TestGetTextReadsTexts(t *testing.T) {
	long := strings.Repeat("x", 3000)
	for _, behind := range behinds {
		for head, want := range map[string]string{
			"\xff":         "",
			"\x01\xff":     "\xff",
			"\x02\xff":     "\u00e4",
			"\x03\xff":     "abc",
			"\x04\xff":     "\xff\xfe\x00\xfa",
			"\xf9\xff":     long[:249],
			"\x00\x01\xff": long[:250],
			"\xf9\x0b\xff": long[:2999],
			"\x00\x0c\xff": long,
		} {
			if u, rest, e := GetText(head + want + behind); e != api.OK || u != want || rest != behind {
				t.Errorf("P1.2: a text of %d bytes: %d bytes, %q, %d", len(want), len(u), rest, e)
			}
		}
	}
}

func TestGetTextRefusesWrongOnes(t *testing.T) {
	long := strings.Repeat("x", 4000)
	for _, w := range wrongs {
		if u, rest, e := GetText(w.s); e != w.want || u != "" || rest != "" {
			t.Errorf("P1.2: GetText(%.20q): %.20q, %.20q, %d; want %d", w.s, u, rest, e, w.want)
		}
	}
	for _, w := range []struct {
		s    string
		want api.Errno
	}{
		{"\x01\x0c\xff" + long, api.ErrForm},
		{"\x01\x0c\xff", api.ErrForm},
		{"\x93\xb8\x6d\x89\xff" + long, api.ErrForm},
		{"\x01\xfe" + long, api.ErrForm},
		{"\x03\xfe", api.ErrForm},
		{"\x93\xb8\x6d\x89\xfe" + long, api.ErrForm},
		{"\x01\xff", api.ErrMore},
		{"\x03\xffab", api.ErrMore},
		{"\x00\x0c\xff" + long[:2999], api.ErrMore},
	} {
		if u, rest, e := GetText(w.s); e != w.want || u != "" || rest != "" {
			t.Errorf("P1.2: GetText(%.20q): %.20q, %.20q, %d; want %d", w.s, u, rest, e, w.want)
		}
	}
}

// spread are numbers of all sizes, on both sides of 0 and of each step to one digit more.
func spread() []int {
	var l []int
	for _, mid := range []int{0, 250, 62500, 15625000, 1 << 16, 1 << 24, 1 << 30} {
		for n := mid - 300; n <= mid+300; n++ {
			l = append(l, n, -n)
		}
	}
	for n := 1; n <= api.MaxNumber-1000003; n += 1000003 {
		l = append(l, n, -n)
	}
	for n := api.MaxNumber - 300; n <= api.MaxNumber; n++ {
		l = append(l, n, -n)
	}
	slices.Sort(l)
	return slices.Compact(l)
}

func TestWhatIsLaidIsRead(t *testing.T) {
	for _, n := range spread() {
		s, e := Int(n)
		if e != api.OK {
			t.Fatalf("P1.3: Int(%d): %d", n, e)
		}
		for _, behind := range behinds {
			if m, rest, e := GetInt(s + behind); e != api.OK || m != n || rest != behind {
				t.Fatalf("P1.3: %d is read as %d, %q, %d", n, m, rest, e)
			}
		}
	}
	l := spread()[:100]
	s, _ := Ints(l...)
	if m, rest, e := GetInts(s+"\x00\xff", 100); e != api.OK || !slices.Equal(m, l) || rest != "\x00\xff" {
		t.Errorf("P1.3: %v is read as %v, %q, %d", l, m, rest, e)
	}
}

func TestEachTextThatIsLaidIsRead(t *testing.T) {
	all := strings.Repeat("\x00\x01\xf9\xfa\xfd\xfe\xffa\xc3\xa4", 300)
	for n := 0; n <= api.MaxText; n++ {
		b, e := Text(all[:n])
		if e != api.OK {
			t.Fatalf("P1.3: a text of %d bytes: %d", n, e)
		}
		for _, behind := range behinds {
			if u, rest, e := GetText(b + behind); e != api.OK || u != all[:n] || rest != behind {
				t.Fatalf("P1.3: a text of %d bytes is read as %d bytes, %q, %d", n, len(u), rest, e)
			}
		}
	}
}

// wantError is the error of a text that does not begin with a number's bytes.
func wantError(s string) api.Errno {
	if strings.IndexByte(s, 254) < 0 && strings.IndexByte(s, 255) < 0 {
		return api.ErrMore
	}
	return api.ErrForm
}

// checkRead holds what is read from s against what is laid.
func checkRead(t *testing.T, s string) {
	t.Helper()
	if n, rest, e := GetInt(s); e == api.OK {
		if b, f := Int(n); f != api.OK || b+rest != s {
			t.Fatalf("P1.3: GetInt(%q) is %d, which is laid as %q, %d", s, n, b, f)
		}
	} else if want := wantError(s); e != want || n != 0 || rest != "" {
		t.Fatalf("P1.2: GetInt(%.20q): %d, %.20q, %d; want %d", s, n, rest, e, want)
	}
	if u, rest, e := GetText(s); e == api.OK {
		if b, f := Text(u); f != api.OK || b+rest != s {
			t.Fatalf("P1.3: GetText(%q) is %q, which is laid as %q, %d", s, u, b, f)
		}
	}
	for many := range 4 {
		if l, rest, e := GetInts(s, many); e == api.OK {
			if b, f := Ints(l...); f != api.OK || len(l) != many || b+rest != s {
				t.Fatalf("P1.3: GetInts(%q, %d) is %v, which is laid as %q, %d", s, many, l, b, f)
			}
		}
	}
}

func TestWhatIsReadIsLaidAsItWas(t *testing.T) {
	for a := range 256 {
		checkRead(t, string([]byte{byte(a)}))
		for b := range 256 {
			checkRead(t, string([]byte{byte(a), byte(b)}))
		}
	}
	some := []byte{0, 1, 2, 0x89, 0xf9, 0xfa, 0xfd, 0xfe, 0xff}
	row := make([]byte, 6)
	for k := range 9 * 9 * 9 * 9 * 9 * 9 {
		for i := range row {
			row[i] = some[k%9]
			k /= 9
		}
		checkRead(t, string(row))
	}
}

func TestNoBytesBeginOthers(t *testing.T) {
	var all []string
	for _, n := range spread() {
		s, _ := Int(n)
		all = append(all, s)
	}
	slices.Sort(all)
	// Sorted, whatever begins with a text stands right behind it.
	for i := 1; i < len(all); i++ {
		if strings.HasPrefix(all[i], all[i-1]) {
			t.Errorf("P1.3: %q begins %q", all[i-1], all[i])
		}
	}
	if len(all) == 0 || all[0] == "" {
		t.Error("P1.3: a number has no bytes")
	}
}

func FuzzRead(f *testing.F) {
	for _, n := range forms {
		f.Add(n.s + "x")
	}
	for _, w := range wrongs {
		f.Add(w.s)
	}
	f.Fuzz(checkRead)
}
