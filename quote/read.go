package quote

import (
	"iter"
	"unicode/utf8"

	"sigillary/api"
)

// met is what a reader meets at a place: a sign, the last quote, or a fault.
type met interface {
	size() int // how many bytes stand for it
}

// sign is one that is read.
type sign struct {
	value rune
	bytes int
}

// last is the quote that ends a text.
type last struct{}

// fault is what may not stand there, as the error that tells it.
type fault api.Errno

func (m sign) size() int { return m.bytes }

func (last) size() int { return 1 }

func (fault) size() int { return 0 }

// looker tells what is met at a sign, with which rest begins.
type looker func(rest string, r rune) met

// lookByEscapes looks at what stands behind a `"`.
func lookByEscapes() looker {
	letters := signsByLetter()
	return func(rest string, r rune) met {
		switch r {
		case '"':
			return last{}
		case '\\':
			return escaped(rest, letters)
		}
		return asItIs(r)
	}
}

// lookByDoubling looks at what stands behind a `'`.
func lookByDoubling(rest string, r rune) met {
	switch {
	case r != '\'':
		return asItIs(r)
	case stands(rest, 1, '\''):
		return sign{r, 2}
	}
	return last{}
}

func asItIs(r rune) met {
	if !plain(r) {
		return fault(api.ErrQuote)
	}
	return sign{r, utf8.RuneLen(r)}
}

// meetings goes through what is met from a place on, each with the place behind it. Whatever is no sign is the last one.
func meetings(s string, from int, look looker) iter.Seq2[int, met] {
	return func(yield func(int, met) bool) {
		behind := from
		for i, r := range signs(s[from:]) {
			place := from + i
			if place < behind {
				continue // it was met together with one ahead of it
			}
			m := look(s[place:], r)
			behind = place + m.size()
			if _, more := m.(sign); !yield(behind, m) || !more {
				return
			}
		}
		yield(len(s), fault(api.ErrQuote))
	}
}

// readText is the text that stands between a place and the last quote, and the place behind that.
func readText(s string, from int, look looker) (string, int, api.Errno) {
	var out []byte
	lay := func(r rune) { out = utf8.AppendRune(out, r) }
	end := from
read:
	for behind, m := range meetings(s, from, look) {
		switch m := m.(type) {
		case sign:
			lay(m.value)
		case last:
			end = behind
			break read
		case fault:
			return "", 0, api.Errno(m)
		}
	}
	return string(out), end, api.OK
}
