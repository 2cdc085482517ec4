package quote

import (
	"iter"
	"slices"
	"unicode/utf8"
)

// signs goes through those of a right text, each with its place.
func signs(s string) iter.Seq2[int, rune] {
	return func(yield func(int, rune) bool) {
		for i, r := range s {
			if !yield(i, r) {
				return
			}
		}
	}
}

func plain(r rune) bool { return r >= 0x20 && r != 0x7f }

// stands tells whether one of some signs stands at a place of a right text, which may be a place of none.
func stands(s string, at int, looked ...rune) bool {
	if at < 0 || at >= len(s) {
		return false
	}
	r, _ := utf8.DecodeRuneInString(s[at:])
	return slices.Contains(looked, r)
}
