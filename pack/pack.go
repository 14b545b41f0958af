// Package pack is layer 1: see shared/doc/01-pack.md.
package pack

import "ogive/api"

const (
	numBytes = 4
	intBytes = 8

	// flip is 2^63: adding it to a number turns that bit alone, so the numbers below 0 stand ahead of the others.
	flip = 1 << 63

	// mark is the byte whose sense hangs on the one behind it: itself, then it is a byte of the text; end, then the text is over.
	// The end is the lower one, so that a text stands ahead of all that begin with it and go on.
	mark   = 0
	itself = 255
	end    = 1
)

// Num is a number as four bytes, Int one as eight, Text a text, so that what is less stands ahead.
func Num(n uint32) string { return highestFirst(uint64(n), numBytes) }

func Int(n int64) string { return highestFirst(uint64(n)^flip, intBytes) }

func Text(s string) string {
	b := make([]byte, 0, len(s)+2)
	for i := range len(s) {
		b = append(b, s[i])
		if s[i] == mark {
			b = append(b, itself)
		}
	}
	return string(append(b, mark, end))
}

// TakeNum, TakeInt and TakeText are what a string begins with, and what is behind it.
func TakeNum(s string) (uint32, string, api.Errno) {
	n, rest, e := takeHighestFirst(s, numBytes)
	return uint32(n), rest, e
}

func TakeInt(s string) (int64, string, api.Errno) {
	n, rest, e := takeHighestFirst(s, intBytes)
	if e != api.OK {
		// Turning the bit of a 0 would tell the least number beside the error.
		return 0, "", e
	}
	return int64(n ^ flip), rest, api.OK
}

func TakeText(s string) (string, string, api.Errno) {
	var b []byte
	marked := false
	for i := range len(s) {
		switch {
		case marked && s[i] == end:
			return string(b), s[i+1:], api.OK
		case marked && s[i] == itself:
			b = append(b, mark)
			marked = false
		case marked:
			return "", "", api.ErrForm
		case s[i] == mark:
			marked = true
		default:
			b = append(b, s[i])
		}
	}
	return "", "", api.ErrForm
}

// highestFirst is the lowest bytes of a number, so many of them, as a string.
func highestFirst(n uint64, many int) string {
	b := make([]byte, many)
	for i := range many {
		b[many-1-i] = byte(n)
		n >>= 8
	}
	return string(b)
}

// takeHighestFirst is the number that a string's first bytes are, so many of them, and what is behind it.
func takeHighestFirst(s string, many int) (uint64, string, api.Errno) {
	if len(s) < many {
		return 0, "", api.ErrForm
	}
	n := uint64(0)
	for i := range many {
		n = n<<8 | uint64(s[i])
	}
	return n, s[many:], api.OK
}
