package plain

import (
	"iter"
	"slices"
)

const (
	blank   = ' '
	nothing = rune(-1) // stands ahead of the first sign, and behind the last one
)

// place is a sign of a text, and what stands beside it.
type place struct {
	ahead, sign, behind rune
}

// places goes through those of a right text.
func places(s string) iter.Seq[place] {
	return func(yield func(place) bool) {
		ahead, sign := nothing, nothing
		for _, r := range s {
			if sign != nothing && !yield(place{ahead, sign, r}) {
				return
			}
			ahead, sign = sign, r
		}
		if sign != nothing {
			yield(place{ahead, sign, nothing})
		}
	}
}

// rule tells whether a sign may stand at its place.
type rule func(p place) bool

// follows tells whether all places of a text follow some rules.
func follows(s string, rules ...rule) bool {
	broken := false
look:
	for p := range places(s) {
		for _, holds := range rules {
			if !holds(p) {
				broken = true
				break look
			}
		}
	}
	return !broken
}

// rulesFor are those of texts that stand plain, in a flow or elsewhere.
func rulesFor(flow bool) []rule {
	l := []rule{
		isPlain,
		isNoMark,
		notFirst(blank, ',', '[', ']', '{', '}', '#', '&', '*', '!', '|', '>', '\'', '"', '%', '@', '`'),
		notLast(blank),
	}
	if flow {
		l = append(l, nowhere(',', '[', ']', '{', '}'))
	}
	return l
}

// isPlain is the rule of chapter 4, which package quote does not export.
func isPlain(p place) bool { return p.sign >= 0x20 && p.sign != 0x7f }

// isNoMark is the rule that no sign would be read as a mark: of a list, of a map, or of a note.
func isNoMark(p place) bool {
	switch p.sign {
	case '-', '?':
		if p.ahead != nothing {
			return true
		}
		// At the beginning they may stand ahead of just what a colon may stand ahead of anywhere.
		fallthrough
	case ':':
		return p.behind != nothing && p.behind != blank
	case '#':
		return p.ahead != blank
	}
	return true
}

func notFirst(looked ...rune) rule {
	return func(p place) bool { return p.ahead != nothing || !slices.Contains(looked, p.sign) }
}

func notLast(looked ...rune) rule {
	return func(p place) bool { return p.behind != nothing || !slices.Contains(looked, p.sign) }
}

func nowhere(looked ...rune) rule {
	return func(p place) bool { return !slices.Contains(looked, p.sign) }
}
