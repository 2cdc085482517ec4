package quote_test

import (
	"fmt"
	"math"
	"regexp"
	"slices"
	"strconv"
	"strings"
	"testing"

	"sigillary/api"
	"sigillary/quote"
)

const (
	mostSign  = 0x10ffff
	firstHalf = 0xd800 // from it to lastHalf none is a sign
	lastHalf  = 0xdfff
)

func isSign(n int) bool { return n >= 0 && n <= mostSign && (n < firstHalf || n > lastHalf) }

func isPlain(n int) bool { return n >= 0x20 && n != 0x7f }

// laid are a number's bytes, so many as are asked for, as UTF-8 lays them, even if it has fewer ones or is no sign.
func laid(n, count int) string {
	if count == 1 {
		return string([]byte{byte(n)})
	}
	b := make([]byte, count)
	for i := count - 1; i > 0; i-- {
		b[i] = 0x80 | byte(n&0x3f)
		n >>= 6
	}
	lead := 0xf00 >> count
	b[0] = byte(lead | n)
	return string(b)
}

// fewest is how many bytes a number has.
func fewest(n int) int {
	switch {
	case n < 0x80:
		return 1
	case n < 0x800:
		return 2
	case n < 0x10000:
		return 3
	}
	return 4
}

func bytesOf(n int) string { return laid(n, fewest(n)) }

func textOf(signs ...int) string {
	var b strings.Builder
	for _, n := range signs {
		b.WriteString(bytesOf(n))
	}
	return b.String()
}

// signEdges are signs at which something changes, and their neighbours.
var signEdges = []int{0, 1, 7, 8, 9, 0xa, 0xb, 0xd, 0x1b, 0x1f, 0x20, 0x21, 0x22, 0x23, 0x27, 0x2f, 0x30, 0x5b, 0x5c, 0x5d, 'a', 'n', 0x7e, 0x7f,
	0x80, 0x85, 0x9f, 0xa0, 0xad, 0xe9, 0xff, 0x100, 0x7ff, 0x800, 0x2028, 0xd7ff, 0xe000, 0xfdd0, 0xfeff, 0xfffd, 0xfffe, 0xffff, 0x10000, 0x1f600, mostSign}

// wrong are texts that are none of signs' bytes.
var wrong = []string{"\x80", "\xbf", "\xff", "\xfe", "\xc3", "\xc3a", "\xe2\x82", "\xe2\x82a", "\xf0\x9f\x98", "\xf0\x9f\x98a",
	"\xc0\x80", "\xc1\xbf", "\xe0\x80\x80", "\xe0\x9f\xbf", "\xf0\x80\x80\x80", "\xf0\x8f\xbf\xbf", "\xc0\xa2", "\xc1\x9c", "\xe0\x80\xa2",
	"\xed\xa0\x80", "\xed\xbf\xbf", "\xed\xa0\xbd\xed\xb8\x80", "\xf4\x90\x80\x80", "\xf7\xbf\xbf\xbf", "\xf8\x88\x80\x80\x80", "\xc3\xa9\xa9", "\xa9\xc3"}

// take is the first sign of a text that is not empty, as its rule says: some sign has just its bytes.
func take(s string) (sign, size int, ok bool) {
	for size = 1; size <= 4 && size <= len(s); size++ {
		n := int(s[0])
		if size > 1 {
			n &= 0x7f >> size
			for _, b := range []byte(s[1:size]) {
				n = n<<6 | int(b&0x3f)
			}
		}
		if isSign(n) && bytesOf(n) == s[:size] {
			return n, size, true
		}
	}
	return 0, 0, false
}

// signsOf are a text's signs, as their rule says, and whether it is right.
func signsOf(s string) ([]int, bool) {
	var l []int
	for s != "" {
		n, size, ok := take(s)
		if !ok {
			return nil, false
		}
		l = append(l, n)
		s = s[size:]
	}
	return l, true
}

// quotedOf is a sign between quotes, as its rule says.
func quotedOf(n int) string {
	switch n {
	case '"', '\\':
		return `\` + string(rune(n))
	case '\n':
		return `\n`
	case '\t':
		return `\t`
	case '\r':
		return `\r`
	}
	if !isPlain(n) {
		return fmt.Sprintf(`\x%02x`, n)
	}
	return bytesOf(n)
}

// read is what a call of Read answers.
type read struct {
	s     string
	place int
	e     api.Errno
}

func readAt(s string, at int) read {
	u, place, e := quote.Read(s, at)
	return read{u, place, e}
}

// What may stand between quotes, from the left, and what a backslash may stand ahead of.
var (
	between = map[byte]*regexp.Regexp{
		'"':  regexp.MustCompile(`^(?:[^"\\\x00-\x1f\x7f]|\\["\\/ntr0]|\\x[0-9a-fA-F]{2}|\\u(?:[0-9a-cefA-CEF][0-9a-fA-F]{3}|[dD][0-7][0-9a-fA-F]{2}))*`),
		'\'': regexp.MustCompile(`^(?:[^'\x00-\x1f\x7f]|'')*`),
	}
	escape = regexp.MustCompile(`\\(?:x..|u....|.)`)
)

func unescaped(e string) string {
	switch e[1] {
	case 'n':
		return "\n"
	case 't':
		return "\t"
	case 'r':
		return "\r"
	case '0':
		return "\x00"
	case 'x', 'u':
		n, err := strconv.ParseInt(e[2:], 16, 64)
		if err != nil {
			panic(err)
		}
		return bytesOf(int(n))
	}
	return e[1:]
}

// readByRule is what Read should answer, by patterns.
func readByRule(s string, at int) read {
	if _, ok := signsOf(s); !ok {
		return read{e: api.ErrUtf}
	}
	if at < 0 || at >= len(s) || s[at] != '"' && s[at] != '\'' {
		return read{e: api.ErrQuote}
	}
	kind, rest := s[at], s[at+1:]
	inner := between[kind].FindString(rest)
	switch rest = rest[len(inner):]; {
	case rest == "":
		return read{e: api.ErrQuote}
	case rest[0] == kind && kind == '"':
		return read{escape.ReplaceAllStringFunc(inner, unescaped), at + len(inner) + 2, api.OK}
	case rest[0] == kind:
		return read{strings.ReplaceAll(inner, "''", "'"), at + len(inner) + 2, api.OK}
	case rest[0] == '\\':
		return read{e: api.ErrEscape}
	}
	return read{e: api.ErrQuote}
}

// reads says whether that is read at a place.
func reads(t *testing.T, s string, at int, want read) {
	t.Helper()
	if got := readAt(s, at); got != want {
		t.Errorf("%.80q at %d: %.80q %d %v, not %.80q %d %v", s, at, got.s, got.place, got.e, want.s, want.place, want.e)
	}
}

// isWhole says whether all of a text is read as that.
func isWhole(t *testing.T, s, text string) {
	t.Helper()
	reads(t, s, 0, read{text, len(s), api.OK})
}

func isRefused(t *testing.T, s string, e api.Errno) {
	t.Helper()
	reads(t, s, 0, read{e: e})
}

// isRight says whether a text is taken as one of these signs.
func isRight(t *testing.T, s string, signs ...int) {
	t.Helper()
	if l, e := quote.Signs(s); !slices.Equal(l, signs) || e != api.OK || !quote.Right(s) {
		t.Errorf("%q: %v %v %v, not %v", s, l, e, quote.Right(s), signs)
	}
}

// isWrong says whether a text is taken as none of signs, by all calls.
func isWrong(t *testing.T, s string) {
	t.Helper()
	l, e := quote.Signs(s)
	q, f := quote.Quote(s)
	if len(l) != 0 || e != api.ErrUtf || q != "" || f != api.ErrUtf || quote.Right(s) {
		t.Errorf("%q: %v %v, %q %v, %v", s, l, e, q, f, quote.Right(s))
	}
	isRefused(t, s, api.ErrUtf)
}

func quoted(t *testing.T, s string) string {
	t.Helper()
	q, e := quote.Quote(s)
	if e != api.OK {
		t.Fatalf("%.80q: %v", s, e)
	}
	return q
}

func TestErrorNumbers(t *testing.T) {
	if api.ErrUtf != 40 || api.ErrEscape != 41 || api.ErrQuote != 42 {
		t.Error(api.ErrUtf, api.ErrEscape, api.ErrQuote)
	}
}

// P4.1

func TestEachNumber(t *testing.T) {
	for n := range mostSign + 0x1000 {
		if isSign(n) {
			isRight(t, bytesOf(n), n)
		} else {
			isWrong(t, bytesOf(n))
		}
	}
	isRight(t, "")
}

// TestEachNumberInMoreBytes: only the fewest ones are its own.
func TestEachNumberInMoreBytes(t *testing.T) {
	for n := range 0x10000 {
		for count := max(2, fewest(n)+1); count <= 4; count++ {
			if s := laid(n, count); quote.Right(s) {
				t.Errorf("%x in %d bytes: %x", n, count, s)
			}
		}
	}
}

func TestAllShortTexts(t *testing.T) {
	texts := []string{}
	for a := range 256 {
		texts = append(texts, string([]byte{byte(a)}))
		for b := range 256 {
			texts = append(texts, string([]byte{byte(a), byte(b)}))
		}
	}
	// Of longer ones, those of bytes at which something changes.
	edges := []byte{0, 0x22, 0x61, 0x7f, 0x80, 0x8f, 0x90, 0x9f, 0xa0, 0xbf, 0xc0, 0xc1, 0xc2, 0xdf, 0xe0, 0xe1, 0xec, 0xed, 0xee, 0xef, 0xf0, 0xf1, 0xf3, 0xf4, 0xf5, 0xff}
	for _, a := range edges {
		for _, b := range edges {
			for _, c := range edges {
				texts = append(texts, string([]byte{a, b, c}))
				for _, d := range edges {
					texts = append(texts, string([]byte{a, b, c, d}))
				}
			}
		}
	}
	for _, s := range texts {
		if l, ok := signsOf(s); ok {
			isRight(t, s, l...)
		} else {
			isWrong(t, s)
		}
	}
}

func TestSignsInOrder(t *testing.T) {
	isRight(t, textOf(signEdges...), signEdges...)
	for _, a := range signEdges {
		for _, b := range signEdges {
			isRight(t, textOf(a, b), a, b)
			isRight(t, textOf(b, a, a, b), b, a, a, b)
		}
	}
}

// TestWrongAnywhere: ahead of signs, between them, and behind them.
func TestWrongAnywhere(t *testing.T) {
	for _, w := range wrong {
		for _, n := range signEdges {
			isWrong(t, w+bytesOf(n))
			isWrong(t, bytesOf(n)+w)
			isWrong(t, bytesOf(n)+w+bytesOf(n))
		}
		isWrong(t, strings.Repeat("a", 1000)+w)
	}
}

// TestSignsAreNewMemory: what is written into an answer, or behind it, is in no other one.
func TestSignsAreNewMemory(t *testing.T) {
	const s = "abc"
	a, _ := quote.Signs(s)
	b, _ := quote.Signs(s)
	a[0] = 'x'
	_ = append(a[:1], 'y', 'z')
	if !slices.Equal(b, []int{'a', 'b', 'c'}) {
		t.Error(b)
	}
	isRight(t, s, 'a', 'b', 'c')
}

func TestQuoteKnown(t *testing.T) {
	for s, want := range map[string]string{
		"":                      `""`,
		"a\"b\n":                `"a\"b\n"`,
		`\`:                     `"\\"`,
		`\n`:                    `"\\n"`,
		`"`:                     `"\""`,
		`'`:                     `"'"`,
		"/":                     `"/"`,
		"\n\t\r":                `"\n\t\r"`,
		"\x00\x01\x1f\x7f":      `"\x00\x01\x1f\x7f"`,
		"\a\b\v\f\x1b":          `"\x07\x08\x0b\x0c\x1b"`,
		"\u0080\u0085\u00a0":    "\"\u0080\u0085\u00a0\"",
		"\u00e9\ufeff\u2028":    "\"\u00e9\ufeff\u2028\"",
		"\ufffd\U0001f600":      "\"\ufffd\U0001f600\"",
		" # - : [ ] { } & * ! ": `" # - : [ ] { } & * ! "`,
	} {
		if q, e := quote.Quote(s); q != want || e != api.OK {
			t.Errorf("%q: %q %v, not %q", s, q, e, want)
		}
	}
}

func TestQuoteEachSign(t *testing.T) {
	var signs strings.Builder
	var want strings.Builder
	for n := range mostSign + 1 {
		if !isSign(n) {
			continue
		}
		signs.WriteString(bytesOf(n))
		want.WriteString(quotedOf(n))
		if q, e := quote.Quote(bytesOf(n)); q != `"`+quotedOf(n)+`"` || e != api.OK {
			t.Errorf("%x: %q %v, not %q", n, q, e, quotedOf(n))
		}
	}
	if quoted(t, signs.String()) != `"`+want.String()+`"` {
		t.Error("all signs, one behind the other")
	}
}

// P4.2

func TestReadKnown(t *testing.T) {
	for s, want := range map[string]string{
		`""`:                               "",
		`"a"`:                              "a",
		`"\u00e9\x41"`:                     "\u00e9A",
		`"\"\\\/\n\t\r\0"`:                 "\"\\/\n\t\r\x00",
		`"\\n"`:                            `\n`,
		`"\\\\"`:                           `\\`,
		`"\\\""`:                           `\"`,
		`"\00"`:                            "\x000",
		`"\x411"`:                          "A1",
		`"\u00411"`:                        "A1",
		`"\xe9\xE9\xff\xFf\x80"`:           "\u00e9\u00e9\u00ff\u00ff\u0080",
		`"\uabcd\uABCD\uaBcD"`:             "\uabcd\uabcd\uabcd",
		`"\ud7ff\ue000\uffff\ufffd\u0000"`: "\ud7ff\ue000\uffff\ufffd\x00",
		`"\x00\x0a\x22\x5c\x7f\u001f"`:     "\x00\n\"\\\x7f\x1f",
		`"'"`:                              "'",
		`"''"`:                             "''",
		`''`:                               "",
		`'a'`:                              "a",
		`''''`:                             "'",
		`''''''`:                           "''",
		`'it''s'`:                          "it's",
		`'''a'''`:                          "'a'",
		`'\'`:                              `\`,
		`'\n\x41\u0041\'`:                  `\n\x41\u0041\`,
		`'"'`:                              `"`,
		`'""'`:                             `""`,
		"'\u0080\U0010ffff'":               "\u0080\U0010ffff",
		"\"\u0080\U0010ffff\"":             "\u0080\U0010ffff",
	} {
		isWhole(t, s, want)
	}
}

func TestReadBehindALastQuote(t *testing.T) {
	for s, place := range map[string]int{`"""`: 2, `"a"b"`: 3, `"a"'`: 3, `'a'b'`: 3, `'a'"`: 3, `'''' '`: 4, `"\"" "`: 4, "\"a\"\n": 3, "'a'\n": 3, `"a"\q`: 3, `'a'\`: 3} {
		want := readByRule(s, 0)
		if want.place != place {
			t.Errorf("%q: %v", s, want)
		}
		reads(t, s, 0, want)
	}
}

// TestReadSignsAsTheyAre: each sign between both quotes.
func TestReadSignsAsTheyAre(t *testing.T) {
	for n := range mostSign + 1 {
		if !isSign(n) {
			continue
		}
		s := bytesOf(n)
		for _, q := range []string{`"`, `'`} {
			whole := q + "a" + s + "b" + q
			switch {
			case !isPlain(n):
				isRefused(t, whole, api.ErrQuote)
			case s == q:
				reads(t, whole, 0, read{"a", 3, api.OK})
			case n == '\\' && q == `"`:
				isRefused(t, whole, api.ErrEscape)
			default:
				isWhole(t, whole, "a"+s+"b")
			}
		}
	}
}

// TestReadEachSignBehindABackslash: of all signs, only those that are listed; at `'` a backslash is one as all others.
func TestReadEachSignBehindABackslash(t *testing.T) {
	stand := map[int]string{'"': `"`, '\\': `\`, '/': "/", 'n': "\n", 't': "\t", 'r': "\r", '0': "\x00"}
	for n := range mostSign + 1 {
		if !isSign(n) {
			continue
		}
		s := `\` + bytesOf(n)
		if text, ok := stand[n]; ok {
			isWhole(t, `"`+s+`"`, text)
			isWhole(t, `"b`+s+`b"`, "b"+text+"b")
		} else {
			isRefused(t, `"`+s+`"`, api.ErrEscape)
			isRefused(t, `"b`+s+`b"`, api.ErrEscape)
			// Digits behind it make it no number, but of these two.
			if n != 'x' && n != 'u' {
				isRefused(t, `"`+s+`00410041"`, api.ErrEscape)
			}
		}
		if isPlain(n) && n != '\'' {
			isWhole(t, `'`+s+`'`, s)
		}
	}
}

func TestReadEachNumber(t *testing.T) {
	for n := range 0x10000 {
		for _, form := range []string{`\u%04x`, `\u%04X`, `\x%02x`, `\x%02X`} {
			if n > 0xff && form[1] == 'x' {
				continue
			}
			s := fmt.Sprintf(form, n)
			if isSign(n) {
				isWhole(t, `"`+s+`"`, bytesOf(n))
				isWhole(t, `"a`+s+`1"`, "a"+bytesOf(n)+"1")
			} else {
				isRefused(t, `"`+s+`"`, api.ErrEscape)
			}
		}
	}
	// Two that are halves of a sign elsewhere are none here.
	isRefused(t, `"\ud83d\ude00"`, api.ErrEscape)
}

// TestReadWrongDigits: whatever stands at the place of one digit, and where one is gone.
func TestReadWrongDigits(t *testing.T) {
	for _, right := range []string{`\x41`, `\u0041`, `\u00e9`, `\uABCD`} {
		for at := 2; at < len(right); at++ {
			for n := range 0x800 {
				s := `"` + right[:at] + bytesOf(n) + right[at+1:] + `"`
				want := readByRule(s, 0)
				if digit := strings.ContainsRune("0123456789abcdefABCDEF", rune(n)); !digit && want.e != api.ErrEscape {
					t.Errorf("%q: %v", s, want)
				}
				reads(t, s, 0, want)
			}
			for _, w := range []string{"\uff11", "\uff21", "\U0001d7d8", "+", "-", "_", ".", " ", "g", "G", `"`, `\`} {
				isRefused(t, `"`+right[:at]+w+right[at+1:]+`"`, api.ErrEscape)
				isRefused(t, `"`+right[:at]+w+`"`, api.ErrEscape)
				isRefused(t, `"`+right[:at]+w, api.ErrEscape)
			}
			isRefused(t, `"`+right[:at]+`"`, api.ErrEscape)
			isRefused(t, `"`+right[:at]+`" "`, api.ErrEscape)
			isRefused(t, `"`+right[:at], api.ErrEscape)
		}
	}
}

// TestReadAnEnd: of each part of a text that ends ahead of its last quote.
func TestReadAnEnd(t *testing.T) {
	for _, pieces := range [][]string{
		{`"`, "a", `\"`, "\u00e9", `\\`, "'", `\x41`, `\u0041`, `\/`, `\0`, "\U0001f600", " "},
		{`'`, "a", `''`, "\u00e9", `\`, `"`, "x", "\U0001f600", " "},
	} {
		s := ""
		for _, p := range pieces {
			s += p
			isRefused(t, s, api.ErrQuote)
			if s[0] == '"' && p[0] == '\\' {
				for cut := 1; cut < len(p); cut++ {
					isRefused(t, s[:len(s)-cut], api.ErrEscape)
				}
			}
		}
		isWhole(t, s+s[:1], readByRule(s+s[:1], 0).s)
	}
	isRefused(t, `'''`, api.ErrQuote)
	isRefused(t, `'''''`, api.ErrQuote)
	isRefused(t, `'a''`, api.ErrQuote)
}

// TestReadTheFirstFault: of two, the one that stands further on the left; none that stands behind the last quote.
func TestReadTheFirstFault(t *testing.T) {
	for _, bad := range []string{`\q`, `\x4`, `\u004`, `\ud800`, `\'`, "\\\n", "\\\u00e9"} {
		for _, sign := range []string{"\n", "\x00", "\x1f", "\x7f"} {
			isRefused(t, `"`+bad+sign+`"`, api.ErrEscape)
			isRefused(t, `"`+sign+bad+`"`, api.ErrQuote)
			isRefused(t, `"`+bad, api.ErrEscape)
			isRefused(t, `"`+bad+bad, api.ErrEscape)
			isRefused(t, `'`+sign+bad+`'`, api.ErrQuote)
			reads(t, `"a"`+sign+bad, 0, read{"a", 3, api.OK})
			reads(t, `'a'`+bad+sign, 0, read{"a", 3, api.OK})
		}
	}
}

// TestReadNoRightText: whatever place, and wherever it is wrong: behind the last quote, and ahead of the first one, too.
func TestReadNoRightText(t *testing.T) {
	for _, w := range wrong {
		for _, s := range []string{`"` + w + `"`, `"a"` + w, `"\q"` + w, `"\` + w + `"`, `"\x` + w + `"`, `'` + w + `'`, `'a'` + w, "'\n'" + w, w} {
			for _, at := range []int{math.MinInt, -1, 0, 1, len(s), math.MaxInt} {
				reads(t, s, at, read{e: api.ErrUtf})
			}
		}
		reads(t, w+`"a"`, len(w), read{e: api.ErrUtf})
		reads(t, w+`'a'`, len(w), read{e: api.ErrUtf})
	}
}

func TestReadAtNoQuote(t *testing.T) {
	for _, at := range []int{math.MinInt, math.MinInt + 1, -1 << 32, -3, -1, 1, 3, 4, 1 << 32, 1 << 62, math.MaxInt} {
		reads(t, `"a"`, at, read{e: api.ErrQuote})
		reads(t, `'a'`, at, read{e: api.ErrQuote})
		reads(t, "", at, read{e: api.ErrQuote})
	}
	isRefused(t, "", api.ErrQuote)
	for n := range mostSign + 1 {
		if s := bytesOf(n); isSign(n) && n != '"' && n != '\'' {
			isRefused(t, s+`"a"`, api.ErrQuote)
		}
	}
	// These end with the byte, or the number, of a quote, or are taken for one elsewhere.
	for _, n := range []int{0x122, 0x127, 0x2222, 0x2727, 0x10022, '`', 0xb4, 0x2018, 0x2019, 0x201c, 0x201d, 0xff02, 0xff07} {
		s := bytesOf(n) + "a" + bytesOf(n)
		for at := range s {
			reads(t, s, at, read{e: api.ErrQuote})
		}
	}
}

// TestReadAtEachPlace: what stands ahead makes no difference, but in the place behind.
func TestReadAtEachPlace(t *testing.T) {
	for _, ahead := range []string{"", "a", " ", `"`, `'`, `\`, `\\`, "\u00e9", "\U0001f600", "\n", "\x00", `"\q`, `''`} {
		for _, s := range []string{`"a"`, `'a'`, `"\""`, `''''`, `"\q"`, "'\n'", `"`, `'`, "\"\u00e9\"", `"\x41"`} {
			want := readAt(s, 0)
			if want.e == api.OK {
				want.place += len(ahead)
			}
			reads(t, ahead+s, len(ahead), want)
		}
	}
}

// TestReadAllShortTexts: of a few signs, all texts of some of them, at both quotes.
func TestReadAllShortTexts(t *testing.T) {
	signs := []string{`"`, `'`, `\`, "x", "u", "0", "d", "F", "n", "\n", "\u00e9"}
	var below func(s string, left int)
	below = func(s string, left int) {
		reads(t, s, 0, readByRule(s, 0))
		if left == 0 {
			return
		}
		for _, sign := range signs {
			below(s+sign, left-1)
		}
	}
	below(`"`, 5)
	below(`'`, 4)
}

// TestReadManyTexts: of pieces, right and wrong, one behind the other, at each place.
func TestReadManyTexts(t *testing.T) {
	pieces := []string{`"`, `"`, `'`, `''`, `\"`, `\\`, `\`, `\n`, `\t`, `\r`, `\0`, `\/`, `\'`, `\x41`, `\xfF`, `\x4`, `\u00e9`, `\uD7FF`, `\uffff`, `\ud800`, `\u12`,
		"a", "b", " ", "0", "#", "\u00e9", "\u0080", "\ufffd", "\U0001f600", "a", "b", "\n", "\x7f"}
	x := uint32(1)
	next := func(n int) int {
		x = x*1664525 + 1013904223
		return int(x>>8) % n
	}
	for range 20000 {
		s := []string{`"`, `'`, "", "a"}[next(4)]
		for range next(12) {
			s += pieces[next(len(pieces))]
		}
		for at := -1; at <= len(s)+1; at++ {
			reads(t, s, at, readByRule(s, at))
		}
	}
}

// P4.3

// TestQuotedIsRead: as the text, to its last quote, whatever stands ahead of it and behind.
func TestQuotedIsRead(t *testing.T) {
	texts := []string{"", textOf(signEdges...), `"`, `\`, `\\`, `\"`, `"\`, `'`, `''`, `\x41`, `\n`, "x", "u0041"}
	for _, a := range signEdges {
		for _, b := range signEdges {
			texts = append(texts, textOf(a, b))
		}
	}
	for _, text := range texts {
		q := quoted(t, text)
		if l, ok := signsOf(q); !ok || slices.ContainsFunc(l, func(n int) bool { return !isPlain(n) }) {
			t.Errorf("%q has signs that are not plain", q)
		}
		for _, behind := range []string{"", `"`, `""`, `'`, `\`, `\"`, "a", "x", "41", "\n", "\x00", "\u00e9", "\U0010ffff", ": ", q} {
			for _, ahead := range []string{"", "a", `"`, `'`, `\`, "\n", "\u00e9"} {
				reads(t, ahead+q+behind, len(ahead), read{text, len(ahead + q), api.OK})
			}
		}
	}
}

func TestEachSignIsReadFromItsQuotes(t *testing.T) {
	for n := range mostSign + 1 {
		if isSign(n) {
			isWhole(t, quoted(t, bytesOf(n)), bytesOf(n))
		}
	}
}

// TestUnlikeTextsAreQuotedUnlike: none is the beginning of another one, either.
func TestUnlikeTextsAreQuotedUnlike(t *testing.T) {
	var quotedTexts []string
	for _, a := range []string{"", `"`, `\`, "n", "\n", "x", "0", "\x00", "a"} {
		for _, b := range []string{`"`, `\`, "n", "\n", "x", "0", "\x00", "a"} {
			quotedTexts = append(quotedTexts, quoted(t, a+b))
		}
	}
	for i, a := range quotedTexts {
		for j, b := range quotedTexts {
			if strings.HasPrefix(b, a) != (i == j) {
				t.Errorf("%q, %q", a, b)
			}
		}
	}
}

// TestLongTexts: they are gone through once, or this takes hours.
func TestLongTexts(t *testing.T) {
	const n = 1 << 20
	for _, s := range []string{"a", `"`, `\`, "\n", "\x00", "'", "\u00e9", "\U0001f600"} {
		text := strings.Repeat(s, n)
		q := quoted(t, text)
		isWhole(t, q, text)
		isRefused(t, q[:len(q)-1], api.ErrQuote)
	}
	isWhole(t, `"`+strings.Repeat(`\u0041`, n)+`"`, strings.Repeat("A", n))
	isWhole(t, `'`+strings.Repeat(`''`, n)+`'`, strings.Repeat("'", n))
	isRefused(t, `"`+strings.Repeat(`\u0041`, n)+`\`, api.ErrEscape)
	isRefused(t, strings.Repeat(`'`, 2*n+1), api.ErrQuote)
}
