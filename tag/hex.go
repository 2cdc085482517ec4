package tag

import (
	"iter"

	"sigillary/api"
)

const (
	digits    = "0123456789abcdef"
	digitBits = 4
)

// Hex are the digits of a text.
func Hex(s string) string {
	out := make([]byte, 0, 2*len(s))
	for b := range bytesOf(s) {
		out = append(out, digits[b>>digitBits], digits[b&0xf])
	}
	return string(out)
}

// Unhex is the text that digits tell.
func Unhex(s string) (string, api.Errno) {
	out := make([]byte, 0, len(s)/2)
read:
	for pair := range pairs(s) {
		var b byte
		for _, r := range pair {
			v, ok := value(r)
			if !ok {
				break read
			}
			b = b<<digitBits | v
		}
		out = append(out, b)
	}
	// It is too short where a rune was no digit, and where the last digit has none beside it.
	if 2*len(out) != len(s) {
		return "", api.ErrHex
	}
	return string(out), api.OK
}

func bytesOf(s string) iter.Seq[byte] {
	return func(yield func(byte) bool) {
		for i := range len(s) {
			if !yield(s[i]) {
				return
			}
		}
	}
}

// pairs goes through a text two bytes by two; a last one alone is left out.
func pairs(s string) iter.Seq[string] {
	return func(yield func(string) bool) {
		for ; len(s) >= 2; s = s[2:] {
			if !yield(s[:2]) {
				return
			}
		}
	}
}

// value is what a rune says as a digit, and whether it is one.
func value(r rune) (byte, bool) {
	switch {
	case '0' <= r && r <= '9':
		return byte(r - '0'), true
	case 'a' <= r && r <= 'f':
		return byte(r-'a') + 10, true
	}
	return 0, false
}
