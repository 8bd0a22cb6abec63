// Package wire is layer 1: see shared/doc/01-wire.md.
package wire

import (
	"iter"

	"watchman/api"
)

const (
	base     = 250
	endBelow = 254
	end      = 255
	maxMany  = 100
)

// Int is P1.1.
func Int(n int) (string, api.Errno) { return Ints(n) }

// Ints is P1.1.
func Ints(l ...int) (string, api.Errno) {
	var out []byte
	for _, n := range l {
		if n < -api.MaxNumber || n > api.MaxNumber {
			return "", api.ErrArg
		}
		out = lay(out, n)
	}
	return string(out), api.OK
}

// Text is P1.1.
func Text(s string) (string, api.Errno) {
	if len(s) > api.MaxText {
		return "", api.ErrLimit
	}
	head, e := Ints(len(s))
	return head + s, e
}

// GetInt is P1.2.
func GetInt(s string) (int, string, api.Errno) {
	at := endIn(s)
	if at == len(s) {
		return 0, "", api.ErrMore
	}
	n, ok := size(s[:at])
	below := s[at] == endBelow
	// 0 is not below 0: it has one form alone.
	if !ok || below && n == 0 {
		return 0, "", api.ErrForm
	}
	if below {
		n = -n
	}
	return n, s[at+1:], api.OK
}

// GetInts is P1.2.
func GetInts(s string, many int) ([]int, string, api.Errno) {
	if many < 0 || many > maxMany {
		return nil, "", api.ErrArg
	}
	var l []int
	for range many {
		n, rest, e := GetInt(s)
		if e != api.OK {
			return nil, "", e
		}
		l = append(l, n)
		s = rest
	}
	return l, s, api.OK
}

// GetText is P1.2.
func GetText(s string) (string, string, api.Errno) {
	n, rest, e := GetInt(s)
	if e != api.OK {
		return "", "", e
	}
	if n < 0 || n > api.MaxText {
		return "", "", api.ErrForm
	}
	if n > len(rest) {
		return "", "", api.ErrMore
	}
	return rest[:n], rest[n:], api.OK
}

// lay adds the bytes of n, which is within the bounds, behind out.
func lay(out []byte, n int) []byte {
	last := byte(end)
	if n < 0 {
		n, last = -n, endBelow
	}
	for d := range digits(n) {
		out = append(out, d)
	}
	return append(out, last)
}

// digits tells the digits of n, which is not below 0, the lowest one first.
func digits(n int) iter.Seq[byte] {
	return func(yield func(byte) bool) {
		for m := n; m > 0; m /= base {
			if !yield(byte(m % base)) {
				return
			}
		}
	}
}

// endIn tells where the first end byte of s stands, or its length if it has none.
func endIn(s string) int {
	for i := range len(s) {
		if s[i] >= endBelow {
			return i
		}
	}
	return len(s)
}

// size tells the number that has the digits of s, and whether there is one within the bounds.
func size(s string) (int, bool) {
	if len(s) > 0 && s[len(s)-1] == 0 {
		return 0, false
	}
	n := 0
	for i := len(s) - 1; i >= 0; i-- {
		d := int(s[i])
		// Asked ahead of the step, so that no long row of digits wraps round.
		if d >= base || n > (api.MaxNumber-d)/base {
			return 0, false
		}
		n = n*base + d
	}
	return n, true
}
