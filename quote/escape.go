package quote

import (
	"strconv"
	"unicode/utf8"

	"sigillary/api"
)

const digits = "0123456789abcdef"

// lettersBySign are what stands behind a backslash for signs that are quoted so.
func lettersBySign() map[rune]byte {
	return map[rune]byte{'"': '"', '\\': '\\', '\n': 'n', '\t': 't', '\r': 'r'}
}

// signsByLetter are those that others stand for, behind a backslash. They are not just the ones that are quoted so:
// a nought is quoted by its digits.
func signsByLetter() map[rune]rune {
	return map[rune]rune{'n': '\n', 't': '\t', 'r': '\r', '0': 0}
}

// appendQuoted puts a sign behind others, as it stands between quotes.
func appendQuoted(out []byte, r rune, letters map[rune]byte) []byte {
	letter, ok := letters[r]
	switch {
	case ok:
		return append(out, '\\', letter)
	case plain(r):
		return utf8.AppendRune(out, r)
	}
	// Two digits are enough: no sign above ff has to be told by its number.
	return append(out, '\\', 'x', digits[r>>4], digits[r&0xf])
}

// escaped is what is met at a backslash, with which rest begins.
func escaped(rest string, letters map[rune]rune) met {
	behind, _ := utf8.DecodeRuneInString(rest[1:])
	value, ok := letters[behind]
	switch {
	case ok:
		return sign{value, 2}
	case stands(rest, 1, '"', '\\', '/'):
		return sign{behind, 2}
	case behind == 'x':
		return numbered(rest, 2)
	case behind == 'u':
		return numbered(rest, 4)
	}
	return fault(api.ErrEscape)
}

// numbered is what is met where a backslash, a letter and so many digits should stand.
func numbered(rest string, count int) met {
	size := 2 + count
	if len(rest) < size {
		return fault(api.ErrEscape)
	}
	n, err := strconv.ParseUint(rest[2:size], 16, 32)
	if err != nil || !utf8.ValidRune(rune(n)) {
		return fault(api.ErrEscape)
	}
	return sign{rune(n), size}
}
