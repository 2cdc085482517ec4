package scal

import (
	"strconv"

	"sigillary/api"
	"sigillary/plain"
	"sigillary/quote"
)

// teller is a scalar that tells its text: each kind by a method of its own.
type teller api.Scalar

func (t teller) null() string { return "null" }

func (t teller) boolean() string { return strconv.FormatBool(t.N == 1) }

func (t teller) number() string { return strconv.Itoa(t.N) }

func (t teller) quoted() string {
	// There is no error: the text of what is a scalar is right.
	s, _ := quote.Quote(t.S)
	return s
}

// textOf is the text of what is a scalar.
func textOf(x api.Scalar) string {
	t := teller(x)
	texts := [...]func() string{api.Null: t.null, api.Bool: t.boolean, api.Int: t.number, api.Str: t.quoted}
	return texts[x.Kind]()
}

// said is what a text says: a string between quotes, a scalar without them, or nothing.
func said(s string) any {
	if begins(s, '"') {
		text, _, e := quote.Read(s, 0)
		if e != api.OK {
			return nil
		}
		return text
	}
	x, e := plain.Resolve(s)
	if e != api.OK {
		return nil
	}
	return x
}

// begins tells whether a text's first sign is that one.
func begins(s string, looked rune) bool {
	for _, r := range s {
		return r == looked
	}
	return false
}

// scalarOf is the scalar that was said, if one was.
func scalarOf(v any) (api.Scalar, bool) {
	if text, ok := v.(string); ok {
		return api.Scalar{Kind: api.Str, S: text}, true
	}
	x, ok := v.(api.Scalar)
	return x, ok
}
