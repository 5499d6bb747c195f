// Package codec is layer 1: see shared/doc/01-codec.md.
package codec

import (
	"iter"
	"slices"
	"strings"

	"tapestry/api"
)

const (
	digit    = 7    // bits of a number that each of its bytes bears
	more     = 0x80 // is set in each byte of a number but the last one
	uintMost = 10   // bytes of the greatest number
	lastMost = 1    // of 64 bits only one is left for the tenth byte
)

// PutUint is a number as bytes, seven bits each.
func PutUint(n uint64) string {
	var b []byte
	for n >= more {
		b = append(b, byte(n)|more)
		n >>= digit
	}
	return string(append(b, byte(n)))
}

// TakeUint is the number with which bytes begin, and how many they are.
func TakeUint(s string) (uint64, int, api.Errno) {
	n := uint64(0)
look:
	for i := range len(s) {
		c := s[i]
		n |= uint64(c&^more) << (digit * i)
		switch {
		case i == uintMost-1 && c > lastMost:
			return 0, 0, api.ErrForm
		case i > 0 && c == 0:
			// A shorter row of bytes says the same number: only that one is PutUint's.
			return 0, 0, api.ErrForm
		case c >= more:
			continue look
		}
		return n, i + 1, api.OK
	}
	return 0, 0, api.ErrMore
}

// PutInt is a number with a sign as bytes.
func PutInt(n int64) string {
	if n < 0 {
		// -(n + 1) and not -n: the least number has no opposite.
		return PutUint(2*uint64(-(n+1)) + 1)
	}
	return PutUint(2 * uint64(n))
}

// TakeInt is the number with which bytes begin, and how many they are.
func TakeInt(s string) (int64, int, api.Errno) {
	u, k, err := TakeUint(s)
	if err != api.OK {
		return 0, 0, err
	}
	n := int64(u / 2)
	if u%2 == 1 {
		n = -n - 1
	}
	return n, k, api.OK
}

// PutText is a text with its length ahead.
func PutText(s string) string {
	return join(slices.Values([]string{PutUint(uint64(len(s))), s}))
}

// TakeText is the text with which bytes begin, of at most so many bytes, and how many they are.
func TakeText(s string, most int) (string, int, api.Errno) {
	n, k, err := TakeUint(s)
	if err != api.OK {
		return "", 0, err
	}
	if n > uint64(max(most, 0)) {
		return "", 0, api.ErrForm
	}
	if n > uint64(len(s)-k) {
		return "", 0, api.ErrMore
	}
	end := k + int(n)
	return strings.Clone(s[k:end]), end, api.OK
}

// join is one text of parts that stand one behind the other.
func join(parts iter.Seq[string]) string {
	var b []byte
	for p := range parts {
		b = append(b, p...)
	}
	return string(b)
}

// Mix mixes a number's bits.
func Mix(n uint64) uint64 {
	n += 0x9e3779b97f4a7c15
	n ^= n >> 30
	n *= 0xbf58476d1ce4e5b9
	n ^= n >> 27
	n *= 0x94d049bb133111eb
	return n ^ n>>31
}
