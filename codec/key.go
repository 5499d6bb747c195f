package codec

import (
	"iter"
	"strings"

	"tapestry/api"
)

const (
	intBytes = 8
	sign     = 1 << 63 // turned, it lets numbers below 0 stand ahead of all others
)

// What stands behind a byte 00 in a KeyText: the end's is less than the other, so that a text stands ahead of all those that it begins.
const (
	inside = 0xff
	ending = 0x01
)

// KeyInt is a number as bytes that rise as it does.
func KeyInt(n int64) string {
	u := uint64(n) ^ sign
	var b [intBytes]byte
	for i := range intBytes {
		b[intBytes-1-i] = byte(u >> (8 * i))
	}
	return string(b[:])
}

// TakeKeyInt reads it.
func TakeKeyInt(s string) (int64, int, api.Errno) {
	if len(s) < intBytes {
		return 0, 0, api.ErrMore
	}
	u := uint64(0)
	for i := range intBytes {
		u = u<<8 | uint64(s[i])
	}
	return int64(u ^ sign), intBytes, api.OK
}

// KeyText is a text as bytes that rise as it does, whatever stands behind them.
func KeyText(s string) string { return join(keyParts(s)) }

// keyParts goes through the pieces of a KeyText: the text up to each byte 00 with what marks that, what is left of it, the end.
func keyParts(s string) iter.Seq[string] {
	return func(yield func(string) bool) {
		rest := s
		for {
			i := strings.IndexByte(rest, 0)
			if i < 0 {
				break
			}
			if !yield(rest[:i+1]) || !yield(string([]byte{inside})) {
				return
			}
			rest = rest[i+1:]
		}
		if yield(rest) {
			yield(string([]byte{0, ending}))
		}
	}
}

// TakeKeyText reads it.
func TakeKeyText(s string) (string, int, api.Errno) {
	var text []byte
look:
	for i := 0; i < len(s); i++ {
		if s[i] != 0 {
			text = append(text, s[i])
			continue look
		}
		i++
		switch {
		case i == len(s):
			break look
		case s[i] == inside:
			text = append(text, 0)
		case s[i] == ending:
			return string(text), i + 1, api.OK
		default:
			return "", 0, api.ErrForm
		}
	}
	return "", 0, api.ErrMore
}

// Common is how many bytes two texts begin with alike.
func Common(a, b string) int {
	n := min(len(a), len(b))
	for i := range n {
		if a[i] != b[i] {
			return i
		}
	}
	return n
}

// Behind is the least text that is above all that begin with this one; "": there is none.
func Behind(s string) string {
	for n := len(s); n > 0; n-- {
		if c := s[n-1]; c != 0xff {
			return s[:n-1] + string([]byte{c + 1})
		}
	}
	return ""
}
