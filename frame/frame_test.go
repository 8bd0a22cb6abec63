package frame

import (
	"math"
	"slices"
	"strings"
	"testing"

	"watchman/api"
)

// frames are kinds, texts and their frames, worked out by another program.
var frames = []struct {
	kind int
	text string
	s    string
}{
	{7, "", "\x07\xff\xff\x07V\xff"},
	{0, "", "\xff\xff\xff"},
	{99, "ab\xff", "c\xff\x03\xffab\xff\xcb\xb8\xff"},
	{1, "a", "\x01\xff\x01\xffa$\xbd\xff"},
	{42, "12/3 raised 1 5 15", "*\xff\x12\xff12/3 raised 1 5 15\x133\xff"},
	{5, "\xff\xfe\x00", "\x05\xff\x03\xff\xff\xfe\x00@\x89\xff"},
	{10, "\x07\xff\xff", "\x0a\xff\x03\xff\x07\xff\xffen\xff"},
	{98, "\xf5\xf6\xf7\xf8\xf9\xfa\xfb\xfc\xfd\xfe\xff", "b\xff\x0b\xff\xf5\xf6\xf7\xf8\xf9\xfa\xfb\xfc\xfd\xfe\xff\xc4m\xff"},
	{3, strings.Repeat("x", 250), "\x03\xff\x00\x01\xff" + strings.Repeat("x", 250) + "\x13m\xff"},
	{99, strings.Repeat("\xff", 3000), "c\xff\x00\x0c\xff" + strings.Repeat("\xff", 3000) + "\xbd\xe0\xff"},
}

// noKinds are numbers that are no kind.
var noKinds = []int{-1, -2, -99, 100, 101, 255, 256, 356, 1 << 32, 1<<32 + 7, math.MaxInt, math.MinInt}

// behinds are what may stand behind a frame.
var behinds = []string{"", "x", "\x00", "\xfa", "\xfe", "\xff", "\x07\xff\xff", "\x07\xff\xff\x01\xff", "long, with ends \xff\xfe in it"}

// rows are texts that fit in one row.
var rows = [][]string{
	nil,
	{""},
	{"a"},
	{"a", "", "bc"},
	{"", "", ""},
	{"\xff", "\xfe", "\x00", "\xfa\xff"},
	{"12/3", "raised"},
	make([]string, 99),
	make([]string, 100),
	{strings.Repeat("x", 2995)},
	{strings.Repeat("x", 2000), strings.Repeat("\xff", 992)},
}

// bytesOf are the bytes of a number, as chapter 1's words have them.
func bytesOf(n int) string {
	var l []byte
	end := byte(255)
	if n < 0 {
		n, end = -n, 254
	}
	for ; n > 0; n /= 250 {
		l = append(l, byte(n%250))
	}
	return string(append(l, end))
}

// textOf are the bytes of a text, however long it is.
func textOf(s string) string { return bytesOf(len(s)) + s }

// sumOf is the sum of s, by long division of its bits.
func sumOf(s string) int {
	left := 65535
	for _, b := range []byte(s) {
		for bit := 7; bit >= 0; bit-- {
			over := left>>15 ^ int(b>>bit)&1
			left = left << 1 & 65535
			if over == 1 {
				left ^= 4129
			}
		}
	}
	return left
}

// forge lays a frame by hand, of a kind and a text's bytes that need not be right.
func forge(kind int, text string) string {
	ahead := bytesOf(kind) + text
	return ahead + bytesOf(sumOf(ahead))
}

// rowOf are a row's bytes by hand, with how many it says it has.
func rowOf(many int, l ...string) string {
	s := bytesOf(many)
	for _, t := range l {
		s += textOf(t)
	}
	return s
}

func TestPut(t *testing.T) {
	for _, f := range frames {
		if s, e := Put(f.kind, f.text); s != f.s || e != api.OK {
			t.Errorf("P3.1: Put(%d, %.20q): %.40q, %d, not %.40q", f.kind, f.text, s, e, f.s)
		}
	}
}

func TestPutOfEveryKind(t *testing.T) {
	for kind := range 100 {
		for _, text := range []string{"", "a", "\xff\xfe", strings.Repeat("z", 3000)} {
			if s, e := Put(kind, text); s != forge(kind, textOf(text)) || e != api.OK {
				t.Errorf("P3.1: Put(%d, %.20q): %.40q, %d", kind, text, s, e)
			}
		}
	}
}

func TestPutRefuses(t *testing.T) {
	long := strings.Repeat("x", 3001)
	for _, kind := range noKinds {
		for _, text := range []string{"", "a", long} {
			if s, e := Put(kind, text); s != "" || e != api.ErrArg {
				t.Errorf("P3.1: Put(%d, %d bytes): %.20q, %d", kind, len(text), s, e)
			}
		}
	}
	for _, kind := range []int{0, 7, 99} {
		for _, text := range []string{long, long + long} {
			if s, e := Put(kind, text); s != "" || e != api.ErrLimit {
				t.Errorf("P3.1: Put(%d, %d bytes): %.20q, %d", kind, len(text), s, e)
			}
		}
	}
}

func TestGet(t *testing.T) {
	for _, f := range frames {
		for _, behind := range behinds {
			k, text, rest, e := Get(f.s + behind)
			if k != f.kind || text != f.text || rest != behind || e != api.OK {
				t.Errorf("P3.1: Get of %d, %.20q with %q behind: %d, %.20q, %.20q, %d", f.kind, f.text, behind, k, text, rest, e)
			}
		}
	}
}

// wrongs are no beginnings with a frame.
var wrongs = []struct {
	name string
	s    string
	want api.Errno
}{
	{"nothing", "", api.ErrMore},
	{"no end of the kind", "\x07", api.ErrMore},
	{"no text", "\x07\xff", api.ErrMore},
	{"no end of how long", "\x07\xff\x01", api.ErrMore},
	{"fewer bytes than the text has", "\x07\xff\x02\xffa", api.ErrMore},
	{"no sum", "\x07\xff\xff", api.ErrMore},
	{"no end of the sum", "\x07\xff\xff\x01", api.ErrMore},
	{"a kind with a digit 0 last", "\x00\xff\xff\x01\xff", api.ErrForm},
	{"a kind of 0 below 0", "\xfe\xff\x01\xff", api.ErrForm},
	{"a kind that is no number, and nothing behind", "\xfa\xff", api.ErrForm},
	{"a text of fewer than 0 bytes", "\x07\xff\x01\xfe", api.ErrForm},
	{"a text of 3001 bytes", forge(7, textOf(strings.Repeat("x", 3001))), api.ErrForm},
	{"a length that is no number", "\x07\xff\x00\xff\x01\xff", api.ErrForm},
	{"a sum with a digit 0 last", "\x07\xff\xff\x01\x00\xff", api.ErrForm},
	{"a sum with a byte 250", "\x07\xff\xff\xfa\xff", api.ErrForm},
	{"a kind of 100", forge(100, textOf("")), api.ErrForm},
	{"a kind of 101", forge(101, textOf("ab")), api.ErrForm},
	{"a kind of -1", forge(-1, textOf("ab")), api.ErrForm},
	{"a kind of MaxNumber", forge(api.MaxNumber, textOf("")), api.ErrForm},
	{"a kind of 100, and another sum", "\x64\xff\xff\x01\xff", api.ErrForm},
	{"a kind of -1, and another sum", "\x01\xfe\xff\x01\xff", api.ErrForm},
	// What is read ahead comes first, whatever the kind.
	{"a kind of 100, and no text", "\x64\xff", api.ErrMore},
	{"a kind of 100, and no sum", "\x64\xff\xff", api.ErrMore},
	{"a sum of -1", "\x07\xff\xff" + bytesOf(-1), api.ErrForm},
	{"a sum of 65536", "\x07\xff\xff" + bytesOf(65536), api.ErrForm},
	{"a sum of 65536 more", "\x07\xff\xff" + bytesOf(sumOf("\x07\xff\xff")+65536), api.ErrForm},
	{"a sum below 0", "\x07\xff\xff" + bytesOf(-sumOf("\x07\xff\xff")), api.ErrForm},
	{"a sum of MaxNumber", "\x07\xff\xff" + bytesOf(api.MaxNumber), api.ErrForm},
	{"a sum of 0", "\x07\xff\xff\xff", api.ErrSum},
	{"a sum of 1", "\x07\xff\xff\x01\xff", api.ErrSum},
	{"a sum of 65535", "\x07\xff\xff" + bytesOf(65535), api.ErrSum},
	{"a sum of one more", "\x07\xff\xff" + bytesOf(sumOf("\x07\xff\xff")+1), api.ErrSum},
	{"a sum of the text alone", "\x07\xff" + textOf("ab") + bytesOf(sumOf(textOf("ab"))), api.ErrSum},
	{"a sum of the text's own bytes", "\x07\xff" + textOf("ab") + bytesOf(sumOf("ab")), api.ErrSum},
}

func TestGetRefuses(t *testing.T) {
	for _, x := range wrongs {
		if k, s, rest, e := Get(x.s); k != 0 || s != "" || rest != "" || e != x.want {
			t.Errorf("P3.1: Get of %s: %d, %q, %q, %d, not %d", x.name, k, s, rest, e, x.want)
		}
	}
	for _, kind := range noKinds {
		if kind < -api.MaxNumber || kind > api.MaxNumber {
			continue
		}
		if _, _, _, e := Get(forge(kind, textOf("a"))); e != api.ErrForm {
			t.Errorf("P3.1: Get of the kind %d: %d", kind, e)
		}
	}
}

func TestGetSeesAnotherByte(t *testing.T) {
	for _, f := range frames {
		if len(f.text) > 250 {
			continue
		}
		first := len(bytesOf(f.kind)) + len(bytesOf(len(f.text)))
		for i := first; i < first+len(f.text); i++ {
			l := []byte(f.s)
			for b := range 256 {
				l[i] = byte(b)
				want := api.ErrSum
				if l[i] == f.s[i] {
					want = api.OK
				}
				if _, _, _, e := Get(string(l)); e != want {
					t.Fatalf("P3.1: %.40q with byte %d as %d: %d", f.s, i, b, e)
				}
			}
		}
	}
}

func TestAll(t *testing.T) {
	s := ""
	var texts []string
	for _, f := range frames {
		for _, x := range wrongs {
			want := x.want
			if x.s == "" {
				want = api.OK
			}
			l, n, e := All(s + x.s)
			if !slices.Equal(l, texts) || n != len(s) || e != want {
				t.Fatalf("P3.2: %d frames, and %s: %d texts, %d bytes of %d, %d", len(texts), x.name, len(l), n, len(s), e)
			}
		}
		s += f.s
		texts = append(texts, f.text)
	}
	if l, n, e := All(s); !slices.Equal(l, texts) || n != len(s) || e != api.OK {
		t.Errorf("P3.2: %d texts of %d, %d bytes of %d, %d", len(l), len(texts), n, len(s), e)
	}
	if l, n, e := All(""); len(l) != 0 || n != 0 || e != api.OK {
		t.Errorf("P3.2: All of nothing: %q, %d, %d", l, n, e)
	}
}

func TestAllGoesNoFurther(t *testing.T) {
	a, b, c := frames[0].s, frames[2].s, frames[4].s
	bad := []byte(b)
	bad[len(bad)-3]++
	if l, n, e := All(a + string(bad) + c); len(l) != 1 || n != len(a) || e == api.OK {
		t.Errorf("P3.2: behind a wrong frame: %q, %d, %d", l, n, e)
	}
}

func TestWhatIsCutEndsAheadOfIt(t *testing.T) {
	var s string
	var texts []string
	for _, f := range frames {
		if len(f.text) > 50 {
			continue
		}
		for cut := 1; cut < len(f.s); cut++ {
			if l, n, e := All(s + f.s[:cut]); !slices.Equal(l, texts) || n != len(s) || e != api.ErrMore {
				t.Fatalf("P3.4: cut at %d of %q: %d texts, %d bytes of %d, %d", cut, f.s, len(l), n, len(s), e)
			}
			if k, text, rest, e := Get(f.s[:cut]); k != 0 || text != "" || rest != "" || e != api.ErrMore {
				t.Fatalf("P3.4: cut at %d of %q: %d, %q, %q, %d", cut, f.s, k, text, rest, e)
			}
		}
		s += f.s
		texts = append(texts, f.text)
	}
}

func TestRow(t *testing.T) {
	for _, l := range rows {
		for _, kind := range []int{0, 5, 99} {
			was := slices.Clone(l)
			s, e := Row(kind, l...)
			if want := forge(kind, textOf(rowOf(len(l), l...))); s != want || e != api.OK {
				t.Errorf("P3.3: Row(%d, %d texts): %.40q, %d, not %.40q", kind, len(l), s, e, want)
			}
			if !slices.Equal(l, was) {
				t.Errorf("R2: Row changed %.40q", was)
			}
		}
	}
	if s, e := Row(5, "a", "", "bc"); s != "\x05\xff\x0a\xff\x03\xff\x01\xffa\xff\x02\xffbcJ\x13\xff" || e != api.OK {
		t.Errorf("P3.3: %q, %d", s, e)
	}
}

func TestRowRefuses(t *testing.T) {
	long := strings.Repeat("x", 3001)
	many := make([]string, 101)
	for _, x := range []struct {
		name string
		l    []string
	}{
		{"101 texts", many},
		{"many texts", make([]string, 100000)},
		{"a text of 3001 bytes", []string{long}},
		{"a text of 3001 bytes behind another", []string{"a", long}},
		{"a text of 3001 bytes ahead of another", []string{long, "a"}},
		{"more than 3000 bytes in all", []string{long[:2000], long[:2000]}},
		{"3001 bytes in all", []string{long[:2996]}},
		{"a text of 3000 bytes", []string{long[:3000]}},
		{"a hundred texts of 30 bytes", slices.Repeat([]string{long[:30]}, 100)},
	} {
		if s, e := Row(5, x.l...); s != "" || e != api.ErrLimit {
			t.Errorf("P3.3: Row of %s: %.20q, %d", x.name, s, e)
		}
		for _, kind := range noKinds {
			if s, e := Row(kind, x.l...); s != "" || e != api.ErrArg {
				t.Errorf("P3.3: Row(%d) of %s: %.20q, %d", kind, x.name, s, e)
			}
		}
	}
	for _, kind := range noKinds {
		for _, l := range rows {
			if s, e := Row(kind, l...); s != "" || e != api.ErrArg {
				t.Errorf("P3.3: Row(%d, %d texts): %.20q, %d", kind, len(l), s, e)
			}
		}
	}
}

func TestGetRow(t *testing.T) {
	for _, l := range rows {
		for _, kind := range []int{0, 5, 99} {
			for _, behind := range behinds {
				k, got, rest, e := GetRow(forge(kind, textOf(rowOf(len(l), l...))) + behind)
				if k != kind || !slices.Equal(got, l) || rest != behind || e != api.OK {
					t.Errorf("P3.3: GetRow of %d, %d texts: %d, %d texts, %q, %d", kind, len(l), k, len(got), rest, e)
				}
			}
		}
	}
}

func TestGetRowRefuses(t *testing.T) {
	for _, x := range wrongs {
		if k, l, rest, e := GetRow(x.s); k != 0 || len(l) != 0 || rest != "" || e != x.want {
			t.Errorf("P3.3: GetRow of %s: %d, %q, %q, %d, not %d", x.name, k, l, rest, e, x.want)
		}
	}
	for _, x := range []struct {
		name string
		text string
	}{
		{"no bytes", ""},
		{"no end of how many", "\x01"},
		{"one text that is not there", rowOf(1)},
		{"two texts, one there", rowOf(2, "a")},
		{"one text, two there", rowOf(1, "a", "b")},
		{"no text, and a byte", rowOf(0) + "x"},
		{"a byte behind", rowOf(2, "a", "b") + "\xff"},
		{"a text cut", rowOf(1, "abc")[:5]},
		{"a number that is none", "\x00\xff"},
		{"a text whose length is none", rowOf(1) + "\x00\xff"},
		{"a text of fewer than 0 bytes", rowOf(1) + "\x01\xfe"},
		{"fewer than 0 texts", rowOf(-1)},
		{"fewer than 0 texts, one there", rowOf(-1, "a")},
		{"101 texts", rowOf(101, make([]string, 101)...)},
		{"a great many texts", rowOf(api.MaxNumber, "a")},
	} {
		if k, l, rest, e := GetRow(forge(5, textOf(x.text)) + "!"); k != 0 || len(l) != 0 || rest != "" || e != api.ErrForm {
			t.Errorf("P3.3: GetRow of %s: %d, %q, %q, %d", x.name, k, l, rest, e)
		}
	}
}

func TestRowsAreNew(t *testing.T) {
	s, _ := Row(5, "a", "b")
	_, one, _, _ := GetRow(s)
	_, two, _, _ := GetRow(s)
	one[0] = "changed"
	if two[0] != "a" {
		t.Errorf("R2: two rows that come out are one")
	}
	l, _, _ := All(s + s)
	l[0] = "changed"
	if m, _, _ := All(s + s); m[0] == "changed" {
		t.Errorf("R2: two lists that come out are one")
	}
}

func TestPutIsGot(t *testing.T) {
	for kind := range 100 {
		for _, n := range []int{0, 1, 5, 249, 250, 251, 2999, 3000} {
			text := strings.Repeat(string([]byte{byte(kind + 156)}), n)
			s, e := Put(kind, text)
			if e != api.OK {
				t.Fatalf("P3.4: Put(%d, %d bytes): %d", kind, n, e)
			}
			for _, behind := range behinds {
				if k, got, rest, e := Get(s + behind); k != kind || got != text || rest != behind || e != api.OK {
					t.Errorf("P3.4: %d, %d bytes: %d, %d bytes, %q, %d", kind, n, k, len(got), rest, e)
				}
			}
		}
	}
}

// checkGot sees that what is got from s is put as it was.
func checkGot(t *testing.T, s string) {
	k, text, rest, e := Get(s)
	if e == api.OK {
		if again, f := Put(k, text); again+rest != s || f != api.OK {
			t.Fatalf("P3.4: %q is put as %q, %d", s, again, f)
		}
	}
	kind, l, behind, f := GetRow(s)
	if f == api.OK {
		if again, g := Row(kind, l...); again+behind != s || g != api.OK {
			t.Fatalf("P3.4: the row %q is put as %q, %d", s, again, g)
		}
	}
	if e != api.OK && f != e {
		t.Fatalf("P3.3: Get: %d, GetRow: %d", e, f)
	}
}

func TestGotIsPut(t *testing.T) {
	for _, f := range frames {
		checkGot(t, f.s+"behind")
	}
	for _, l := range rows {
		checkGot(t, forge(9, textOf(rowOf(len(l), l...)))+"behind")
	}
	for _, x := range wrongs {
		checkGot(t, x.s)
	}
}

func FuzzFrame(f *testing.F) {
	for _, x := range frames {
		f.Add(x.kind, x.text, x.s)
	}
	for _, x := range wrongs {
		f.Add(100, "", x.s)
	}
	f.Fuzz(func(t *testing.T, kind int, text, s string) {
		checkGot(t, s)
		checkGot(t, forge(7, textOf(s)))
		l, n, e := All(s)
		if n < 0 || n > len(s) || (e == api.OK) != (n == len(s)) {
			t.Fatalf("P3.2: %d texts, %d bytes of %d, %d", len(l), n, len(s), e)
		}
		a, e := Put(kind, text)
		if e != api.OK {
			return
		}
		m, size, g := All(a + s)
		if size != len(a)+n || len(m) != 1+len(l) || m[0] != text || !slices.Equal(m[1:], l) {
			t.Fatalf("P3.4: behind one more: %d texts, %d bytes, %d", len(m), size, g)
		}
	})
}
