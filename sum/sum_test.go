package sum

import (
	"math"
	"slices"
	"strings"
	"testing"
)

// known are texts and their sums, worked out by another program.
var known = []struct {
	s    string
	want int
}{
	{"", 65535},
	{"1", 51074},
	{"12", 15802},
	{"A", 47381},
	{"123456789", 10673},
	{"12/3 raised 1 5 15", 50452},
	{"\x00", 57840},
	{"\x00\x00", 7439},
	{"\x01", 61905},
	{"\x07\xfe", 35401},
	{"\x80", 28792},
	{"\xc3\xa9", 31435},
	{"\xff", 65280},
	{"\xff\xff", 0},
	{everyByte(), 16317},
	{strings.Repeat("A", 256), 59915},
	{strings.Repeat("\x00", 3000), 31152},
	{strings.Repeat("\xff", 3000), 54197},
}

// noSums are numbers that are no sum.
var noSums = []int{-1, -2, -65535, -65536, 65536, 65537, 70000, 131071, 1 << 32, 1<<32 + 65535, math.MaxInt, math.MinInt}

func everyByte() string {
	var l []byte
	for i := range 256 {
		l = append(l, byte(i))
	}
	return string(l)
}

// byWords is the sum that goes on from c by b, as the chapter's words have it.
func byWords(c int, b byte) int {
	c ^= 256 * int(b)
	for range 8 {
		twice := 2 * c % 65536
		if c >= 32768 {
			twice ^= 4129
		}
		c = twice
	}
	return c
}

// longSum is what is left of s, as a row of bits, by long division: another way to the same sum.
func longSum(s string) int {
	row := append([]byte(s), 0, 0)
	left := 0
	for i, b := range row {
		if i < 2 {
			b = ^b
		}
		for bit := 7; bit >= 0; bit-- {
			left = left<<1 | int(b>>bit)&1
			if left >= 1<<16 {
				left ^= 1<<16 | 4129
			}
		}
	}
	return left
}

func TestStep(t *testing.T) {
	for _, x := range []struct {
		c    int
		b    byte
		want int
	}{
		{0, 0, 0}, {0, 1, 4129}, {0, 128, 37256}, {0, 255, 7920}, {1, 0, 256},
		{256, 1, 0}, {4129, 7, 17366}, {32767, 0, 28792}, {32768, 0, 37256},
		{47381, 66, 19316}, {65535, 0, 57840}, {65535, 65, 47381}, {65535, 255, 65280},
	} {
		if n, ok := Step(x.c, x.b); n != x.want || !ok {
			t.Errorf("P2.1: Step(%d, %d): %d, %t, not %d", x.c, x.b, n, ok, x.want)
		}
	}
}

func TestStepOfEverySum(t *testing.T) {
	for c := range 65536 {
		for _, b := range []byte{0, 1, 127, 128, 200, 255, byte(c), byte(c >> 8)} {
			if n, ok := Step(c, b); n != byWords(c, b) || !ok {
				t.Fatalf("P2.1: Step(%d, %d): %d, %t", c, b, n, ok)
			}
		}
	}
	for b := range 256 {
		for c := 0; c < 65536; c += 251 {
			if n, ok := Step(c, byte(b)); n != byWords(c, byte(b)) || !ok {
				t.Fatalf("P2.1: Step(%d, %d): %d, %t", c, b, n, ok)
			}
		}
	}
}

func TestStepOfNoSum(t *testing.T) {
	for _, c := range noSums {
		for b := range 256 {
			if n, ok := Step(c, byte(b)); n != 0 || ok {
				t.Errorf("P2.1: Step(%d, %d): %d, %t", c, b, n, ok)
			}
		}
	}
}

func TestOf(t *testing.T) {
	for _, x := range known {
		if n := Of(x.s); n != x.want {
			t.Errorf("P2.1: Of(%.20q, %d bytes): %d, not %d", x.s, len(x.s), n, x.want)
		}
	}
}

func TestOfIsByStep(t *testing.T) {
	for _, x := range known {
		c := 65535
		for i := range len(x.s) {
			next, ok := Step(c, x.s[i])
			if !ok {
				t.Fatalf("P2.1: Step(%d, %d): no sum", c, x.s[i])
			}
			c = next
		}
		if n := Of(x.s); n != c {
			t.Errorf("P2.1: Of(%.20q): %d, by Step %d", x.s, n, c)
		}
	}
}

func TestOver(t *testing.T) {
	for _, parts := range [][]string{
		nil,
		{},
		{""},
		{"", "", ""},
		{"123456789"},
		{"1234", "56789"},
		{"", "1234", "", "56789", ""},
		{"1", "2", "3", "4", "5", "6", "7", "8", "9"},
		{"56789", "1234"},
		{"\xff", "\xff", "\x00", "\xfe\x07"},
		{"\xc3", "\xa9"},
		{everyByte(), strings.Repeat("A", 3000), "x"},
	} {
		was := slices.Clone(parts)
		if n, want := Over(parts...), Of(strings.Join(parts, "")); n != want {
			t.Errorf("P2.1: Over(%.40q): %d, not %d", parts, n, want)
		}
		if !slices.Equal(parts, was) {
			t.Errorf("R2: Over changed %.40q", was)
		}
	}
	if n := Over("1234", "56789"); n != 10673 {
		t.Errorf("P2.1: Over: %d", n)
	}
	if n := Over(); n != 65535 {
		t.Errorf("P2.1: Over nothing: %d", n)
	}
	if Over("56789", "1234") == Over("1234", "56789") {
		t.Errorf("P2.1: Over does not see the parts' order")
	}
}

func TestFind(t *testing.T) {
	nines := "123456789"
	for _, x := range []struct {
		s          string
		c, most, k int
		ok         bool
	}{
		{nines, 65535, 9, 0, true},
		{nines, 65535, 0, 0, true},
		{nines, 51074, 9, 1, true},
		{nines, 51074, 1, 1, true},
		{nines, 51074, 0, 0, false},
		{nines, 15802, 2, 2, true},
		{nines, 15802, 1, 0, false},
		{nines, 10673, 9, 9, true},
		{nines, 10673, 10, 9, true},
		{nines, 10673, math.MaxInt, 9, true},
		{nines, 10673, 8, 0, false},
		{nines + "x", 10673, 10, 9, true},
		{"12345678", 10673, 9, 0, false},
		{"", 65535, 0, 0, true},
		{"", 65535, 5, 0, true},
		{"", 0, 5, 0, false},
		{"", 65535, -1, 0, false},
		{nines, 65535, -1, 0, false},
		{nines, 65535, math.MinInt, 0, false},
		{nines, 51074, -9, 0, false},
		// The sum 0 stays 0 behind bytes that are 0.
		{"\xff\xff\x00\x00\x00", 0, 5, 2, true},
		{"\xff\xff\x00\x00\x00", 0, 2, 2, true},
		{"\xff\xff\x00\x00\x00", 0, 1, 0, false},
		{"\xc3\xa9", 31435, 2, 2, true},
		{"\xc3\xa9", 31435, 1, 0, false},
	} {
		if k, ok := Find(x.s, x.c, x.most); k != x.k || ok != x.ok {
			t.Errorf("P2.2: Find(%q, %d, %d): %d, %t, not %d, %t", x.s, x.c, x.most, k, ok, x.k, x.ok)
		}
	}
	for _, c := range noSums {
		if k, ok := Find(nines, c, 9); k != 0 || ok {
			t.Errorf("P2.2: Find of %d, no sum: %d, %t", c, k, ok)
		}
	}
}

// plainFind asks each k on its own.
func plainFind(s string, c, most int) (int, bool) {
	for k := 0; k <= most && k <= len(s); k++ {
		if Of(s[:k]) == c {
			return k, true
		}
	}
	return 0, false
}

func TestFindIsTheLeast(t *testing.T) {
	for _, s := range []string{"", "a", everyByte()[100:150], "\xff\xff\x00\x00\xff\xff", strings.Repeat("ab", 20)} {
		for most := -2; most <= len(s)+2; most++ {
			for j := range len(s) + 1 {
				c := Of(s[:j])
				k, ok := Find(s, c, most)
				wantK, want := plainFind(s, c, most)
				if k != wantK || ok != want {
					t.Fatalf("P2.2: Find(%.20q, %d, %d): %d, %t, not %d, %t", s, c, most, k, ok, wantK, want)
				}
			}
		}
	}
}

func TestFindMeetsASumAgain(t *testing.T) {
	// Over 65536 bytes that are alike, no more sums than there are can be told apart.
	s := strings.Repeat("\x01", 70000)
	seen := map[int]int{}
	c := 65535
	for k := range 65537 {
		if at, again := seen[c]; again {
			if got, ok := Find(s, c, 70000); got != at || !ok {
				t.Fatalf("P2.2: sum %d stands at %d and %d, Find: %d, %t", c, at, k, got, ok)
			}
			return
		}
		seen[c] = k
		c, _ = Step(c, 1)
	}
	t.Fatal("P2.1: more sums than there are")
}

func TestAnotherByteIsSeen(t *testing.T) {
	for _, x := range known {
		if len(x.s) > 256 {
			continue
		}
		for i := range len(x.s) {
			l := []byte(x.s)
			for b := range 256 {
				l[i] = byte(b)
				if same := Of(string(l)) == x.want; same != (l[i] == x.s[i]) {
					t.Fatalf("P2.3: %.20q with byte %d as %d: one sum %t", x.s, i, b, same)
				}
			}
		}
	}
}

func TestChangedPlacesAreSeen(t *testing.T) {
	for _, around := range [][2]string{{"", ""}, {"x", ""}, {"", "y"}, {"12/3", "raised \x00\xff"}} {
		for a := range 256 {
			for b := range 256 {
				one := Over(around[0], string([]byte{byte(a), byte(b)}), around[1])
				two := Over(around[0], string([]byte{byte(b), byte(a)}), around[1])
				if (one == two) != (a == b) {
					t.Fatalf("P2.3: %d and %d within %q: %d, %d", a, b, around, one, two)
				}
			}
		}
	}
}

// twins are two texts of one sum, of three bytes each.
func twins(t *testing.T) (string, string) {
	seen := map[int]string{}
	for i := range 1 << 17 {
		s := string([]byte{byte(i >> 16), byte(i >> 8), byte(i)})
		if other, again := seen[Of(s)]; again {
			return other, s
		}
		seen[Of(s)] = s
	}
	t.Fatal("P2.1: more sums than there are")
	return "", ""
}

func TestOneSumGoesOnAsOne(t *testing.T) {
	one, two := twins(t)
	if one == two || Of(one) != Of(two) {
		t.Fatalf("P2.3: %q, %q", one, two)
	}
	for _, x := range known {
		if a, b := Of(one+x.s), Of(two+x.s); a != b {
			t.Errorf("P2.3: behind twins %.20q: %d, %d", x.s, a, b)
		}
		if a, b := Of(x.s+one), Over(x.s, one); a != b {
			t.Errorf("P2.1: %d, %d", a, b)
		}
	}
}

func FuzzSum(f *testing.F) {
	for _, x := range known {
		f.Add(x.s, "", 3)
		f.Add(x.s, "behind", -1)
	}
	f.Fuzz(func(t *testing.T, a, b string, most int) {
		c := Of(a)
		if c < 0 || c > 65535 {
			t.Fatalf("P2.1: %d is no sum", c)
		}
		if len(a) >= 2 && c != longSum(a) {
			t.Fatalf("P2.1: %d, by long division %d", c, longSum(a))
		}
		if Over(a, b) != Of(a+b) {
			t.Fatalf("P2.1: %q, %q: %d, %d", a, b, Over(a, b), Of(a+b))
		}
		k, ok := Find(a+b, c, most)
		if wantK, want := plainFind(a+b, c, most); k != wantK || ok != want {
			t.Fatalf("P2.2: %d, %t, not %d, %t", k, ok, wantK, want)
		}
	})
}
