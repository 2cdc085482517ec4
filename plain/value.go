package plain

import (
	"slices"
	"strconv"
	"strings"
	"unicode/utf8"

	"sigillary/api"
)

// none is the value of a text that has none.
type none struct{}

// words are texts that say something else than themselves, with their values.
func words() map[string]any {
	return map[string]any{
		"": nil, "null": nil, "~": nil,
		"true": true, "false": false,
		".inf": none{}, "+.inf": none{}, "-.inf": none{}, ".nan": none{},
	}
}

// valueOf is nil, a bool, an int, a string, or none.
func valueOf(s string) any {
	v, ok := words()[s]
	switch {
	case ok:
		return v
	case looksLikeNumber(s):
		return numberOf(s)
	}
	return s
}

func scalarOf(v any) api.Scalar {
	switch v := v.(type) {
	case bool:
		if v {
			return api.Scalar{Kind: api.Bool, N: 1}
		}
		return api.Scalar{Kind: api.Bool}
	case int:
		return api.Scalar{Kind: api.Int, N: v}
	case string:
		// The text that was handed in shares no memory with what is answered.
		return api.Scalar{Kind: api.Str, S: strings.Clone(v)}
	}
	return api.Scalar{Kind: api.Null}
}

// looksLikeNumber tells whether a text would be taken for a number elsewhere, so that it can't be a Str.
func looksLikeNumber(s string) bool {
	s = behindOne(s, '+', '-')
	s = behindOne(s, '.')
	return s != "" && follows(s, firstIsDigit, digitOr('.', 'e', 'E', '+', '-', '_'))
}

// behindOne is what stands behind the first sign, if that is one of some, else all of a text.
func behindOne(s string, looked ...rune) string {
	r, size := utf8.DecodeRuneInString(s)
	if slices.Contains(looked, r) {
		return s[size:]
	}
	return s
}

func firstIsDigit(p place) bool { return p.ahead != nothing || isDigit(p.sign) }

func digitOr(looked ...rune) rule {
	return func(p place) bool { return isDigit(p.sign) || slices.Contains(looked, p.sign) }
}

func isDigit(r rune) bool { return '0' <= r && r <= '9' }

// numberOf is an int, or none: of all texts that tell a number, the one that it is written as has a value.
func numberOf(s string) any {
	n, err := strconv.Atoi(s)
	if err != nil || strconv.Itoa(n) != s || !Right(api.Scalar{Kind: api.Int, N: n}) {
		return none{}
	}
	return n
}
