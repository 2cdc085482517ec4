package scal_test

import (
	"bytes"
	"cmp"
	"fmt"
	"math"
	"regexp"
	"slices"
	"strconv"
	"strings"
	"testing"
	"unicode/utf8"
	"unsafe"

	"sigillary/api"
	"sigillary/plain"
	"sigillary/scal"
)

func null() api.Scalar         { return api.Scalar{Kind: api.Null} }
func boolean(n int) api.Scalar { return api.Scalar{Kind: api.Bool, N: n} }
func integer(n int) api.Scalar { return api.Scalar{Kind: api.Int, N: n} }
func str(s string) api.Scalar  { return api.Scalar{Kind: api.Str, S: s} }

// grid are scalars, and others that are none, of some kinds, with some numbers, and some texts.
func grid(kinds, numbers []int, texts []string) []api.Scalar {
	var l []api.Scalar
	for _, kind := range kinds {
		for _, n := range numbers {
			for _, s := range texts {
				l = append(l, api.Scalar{Kind: kind, N: n, S: s})
			}
		}
	}
	return l
}

// Fields at which something changes, and their neighbours; all of them rise.
var (
	kindEdges   = []int{math.MinInt, -1 << 32, -1, api.Null, api.Bool, api.Int, api.Str, 4, 256, 1 << 32, 1<<32 + 1, math.MaxInt}
	numberEdges = []int{math.MinInt, math.MinInt + 1, -api.MaxNum - 1, -api.MaxNum, -1 << 32, -10, -9, -1, 0, 1, 2, 9, 10, 1 << 31, 1 << 32, api.MaxNum, api.MaxNum + 1, math.MaxInt}
	textEdges   = []string{"", "\x00", "\x00\x00", "\x01", "\n", " ", "\"", "10", "9", "B", "Ba", "a", "a\x00", "aB", "aa", "ab", "b", "\x7f", "\x80", "\u00e9", "\u00e9a", "\ufffd", "\uffff", "\U00010000", "\U0010ffff", "\xff"}
)

// anyScalars are some of any fields, each one ahead of all those behind it.
func anyScalars() []api.Scalar {
	return grid(kindEdges, numberEdges, textEdges)
}

// compareByRule is what Compare should answer.
func compareByRule(a, b api.Scalar) int {
	if n := cmp.Compare(a.Kind, b.Kind); n != 0 {
		return n
	}
	if n := cmp.Compare(a.N, b.N); n != 0 {
		return n
	}
	return bytes.Compare([]byte(a.S), []byte(b.S))
}

// quotedByRule is a text between quotes.
func quotedByRule(s string) string {
	stand := map[rune]string{'"': `\"`, '\\': `\\`, '\n': `\n`, '\t': `\t`, '\r': `\r`}
	var b strings.Builder
	for _, r := range s {
		switch {
		case stand[r] != "":
			b.WriteString(stand[r])
		case r < 0x20 || r == 0x7f:
			fmt.Fprintf(&b, `\x%02x`, r)
		default:
			b.WriteRune(r)
		}
	}
	return `"` + b.String() + `"`
}

// told is what a call of Text, or of Read, answers.
type told struct {
	s string
	x api.Scalar
	e api.Errno
}

// textByRule is what Text should answer.
func textByRule(x api.Scalar) told {
	for _, y := range []api.Scalar{null(), boolean(0), boolean(1)} {
		if x == y {
			return told{s: []string{"null", "false", "true"}[x.Kind+x.N]}
		}
	}
	switch {
	case x.Kind == 2 && x.S == "" && x.N >= -999999999999999 && x.N <= 999999999999999:
		return told{s: fmt.Sprint(x.N)}
	case x.Kind == 3 && x.N == 0 && utf8.ValidString(x.S):
		return told{s: quotedByRule(x.S)}
	}
	return told{e: api.ErrScalar}
}

// Texts of scalars, by patterns.
var (
	aWord   = regexp.MustCompile(`^(?:null|true|false)$`)
	anInt   = regexp.MustCompile(`^(?:0|-?[1-9][0-9]{0,14})$`)
	aStr    = regexp.MustCompile(`^"(?:[^"\\\x00-\x1f\x7f]|\\["\\ntr]|\\x(?:0[0-8bcef]|1[0-9a-f]|7f))*"$`)
	escaped = regexp.MustCompile(`\\(?:x..|.)`)
)

func unescaped(e string) string {
	switch e[1] {
	case 'n':
		return "\n"
	case 't':
		return "\t"
	case 'r':
		return "\r"
	case 'x':
		n, err := strconv.ParseUint(e[2:], 16, 8)
		if err != nil {
			panic(err)
		}
		return string([]byte{byte(n)})
	}
	return e[1:]
}

// readByRule is what Read should answer.
func readByRule(s string) told {
	switch {
	case aWord.MatchString(s):
		return told{x: map[string]api.Scalar{"null": null(), "false": boolean(0), "true": boolean(1)}[s]}
	case anInt.MatchString(s):
		n, err := strconv.ParseInt(s, 10, 64)
		if err != nil {
			panic(err)
		}
		return told{x: integer(int(n))}
	case utf8.ValidString(s) && aStr.MatchString(s):
		return told{x: str(escaped.ReplaceAllStringFunc(s[1:len(s)-1], unescaped))}
	}
	return told{e: api.ErrScalar}
}

func text(x api.Scalar) told {
	s, e := scal.Text(x)
	return told{s: s, e: e}
}

func read(s string) told {
	x, e := scal.Read(s)
	return told{x: x, e: e}
}

// holds says whether Read answers of a text what its rule says, and whether what is read has just that text (P6.3).
func holds(t *testing.T, s string) {
	t.Helper()
	got := read(s)
	if want := readByRule(s); got != want {
		t.Errorf("%.80q: %.80v, not %.80v", s, got, want)
	}
	if got.e == api.OK && (text(got.x) != told{s: s}) {
		t.Errorf("%.80q: %.80v, whose text is %.80v", s, got, text(got.x))
	}
}

// isRefused says whether a text is that of no scalar.
func isRefused(t *testing.T, s string) {
	t.Helper()
	holds(t, s)
	if got := read(s); got != (told{e: api.ErrScalar}) {
		t.Errorf("%.80q: %.80v", s, got)
	}
}

// isText says whether a scalar has that text, and the text is read as that scalar.
func isText(t *testing.T, x api.Scalar, s string) {
	t.Helper()
	holds(t, s)
	if got := text(x); got != (told{s: s}) || got != textByRule(x) {
		t.Errorf("%.80v: %.80v, not %.80q", x, got, s)
	}
	if got := read(s); got != (told{x: x}) {
		t.Errorf("%.80q: %.80v, not %.80v", s, got, x)
	}
}

// isNone says whether that has no text.
func isNone(t *testing.T, x api.Scalar) {
	t.Helper()
	if got := text(x); got != (told{e: api.ErrScalar}) || got != textByRule(x) {
		t.Errorf("%v: %v", x, got)
	}
}

// chance are numbers that look like it.
type chance uint32

func (c *chance) below(n int) int {
	*c = *c*1664525 + 1013904223
	return int(*c>>8) % n
}

func TestNumbersOfErrorsAndKinds(t *testing.T) {
	if api.ErrScalar != 60 || api.Null != 0 || api.Bool != 1 || api.Int != 2 || api.Str != 3 || api.MaxNum != 999999999999999 {
		t.Error(api.ErrScalar, api.Null, api.Bool, api.Int, api.Str, api.MaxNum)
	}
}

// P6.1: Compare

// rise says whether each of some is ahead of all those behind it.
func rise(t *testing.T, l ...api.Scalar) {
	t.Helper()
	for i, a := range l {
		for k, b := range l {
			if got, want := scal.Compare(a, b), cmp.Compare(i, k); got != want || got != compareByRule(a, b) {
				t.Errorf("%.80v, %.80v: %d, not %d", a, b, got, want)
			}
		}
	}
}

func TestCompareKnown(t *testing.T) {
	rise(t, null(), boolean(0), boolean(1), integer(-1), integer(10), str(""), str("B"), str("a"))
	rise(t, integer(-api.MaxNum), integer(-100), integer(-99), integer(-10), integer(-9), integer(0), integer(2), integer(9), integer(10), integer(100), integer(api.MaxNum))
	rise(t, str(""), str("-1"), str("10"), str("9"), str("A"), str("Z"), str("_"), str("a"), str("a b"), str("aa"), str("b"), str("null"), str("~"))
}

func TestCompareOfAnyFields(t *testing.T) {
	rise(t, anyScalars()...)
}

// TestCompareByKindThenNumberThenText: what comes first decides, whatever comes behind.
func TestCompareByKindThenNumberThenText(t *testing.T) {
	rise(t, api.Scalar{Kind: 0, N: 9, S: "z"}, api.Scalar{Kind: 1, N: -9, S: "a"})
	rise(t, api.Scalar{Kind: 0, N: 0, S: "z"}, api.Scalar{Kind: 0, N: 1, S: "a"})
	rise(t, api.Scalar{Kind: 3, N: -1, S: "z"}, api.Scalar{Kind: 3, N: 0, S: "a"}, api.Scalar{Kind: 3, N: 0, S: "z"}, api.Scalar{Kind: 3, N: 1, S: ""})
	rise(t, api.Scalar{Kind: -5, S: "z"}, null(), api.Scalar{S: "a"}, api.Scalar{N: 1}, boolean(0), api.Scalar{Kind: 4, N: -1})
}

// TestCompareGreatNumbers: what lies between them is no Int of 64 bits.
func TestCompareGreatNumbers(t *testing.T) {
	rise(t, integer(math.MinInt), integer(math.MinInt+1), integer(-1), integer(0), integer(1), integer(math.MaxInt-1), integer(math.MaxInt))
	rise(t, api.Scalar{Kind: math.MinInt}, api.Scalar{Kind: -1}, api.Scalar{Kind: 0}, api.Scalar{Kind: 1}, api.Scalar{Kind: math.MaxInt})
	for shift := range 62 {
		rise(t, integer(-1<<shift-1), integer(-1<<shift), integer(1<<shift), integer(1<<shift+1))
		rise(t, api.Scalar{Kind: 5}, api.Scalar{Kind: 5 + 1<<shift})
	}
}

// TestCompareByteByByte: of texts, right or not.
func TestCompareByteByByte(t *testing.T) {
	for a := range 256 {
		for b := range 256 {
			x, y := string([]byte{byte(a)}), string([]byte{byte(b)})
			for _, pair := range [][2]string{{x, y}, {"a" + x, "a" + y}, {x + "a", y + "a"}, {x + "z", y + "a"}, {x + "\xff", y}, {x, x + y}, {x + y, y + x}} {
				want := bytes.Compare([]byte(pair[0]), []byte(pair[1]))
				if got := scal.Compare(str(pair[0]), str(pair[1])); got != want {
					t.Errorf("%q, %q: %d, not %d", pair[0], pair[1], got, want)
				}
			}
		}
	}
	// Another order than that of two bytes a sign, or of lower case.
	rise(t, str("\ud7ff"), str("\ue000"), str("\uffff"), str("\U00010000"))
	rise(t, str("A"), str("Z"), str("a"), str("z"), str("\u00c9"), str("\u00e9"))
}

func TestCompareLongTexts(t *testing.T) {
	long := strings.Repeat("a", 1<<20)
	rise(t, str(long[1:]), str(long), str(long+"\x00"), str(long+"a"), str(long[1:]+"b"), str("b"))
	if scal.Compare(str(long), str(strings.Clone(long))) != 0 {
		t.Error("a text and its copy")
	}
}

// P6.1: Text and Read

func TestTextKnown(t *testing.T) {
	isText(t, null(), "null")
	isText(t, boolean(0), "false")
	isText(t, boolean(1), "true")
	isText(t, integer(-1), "-1")
	isText(t, integer(0), "0")
	isText(t, integer(10), "10")
	isText(t, integer(-12), "-12")
	isText(t, str(""), `""`)
	isText(t, str("B"), `"B"`)
	isText(t, str("a"), `"a"`)
	for _, s := range []string{"null", "~", "true", "false", "0", "-12", "1.5", " ", "- a", "a: b", "#", "it's", "'a'", "[", "{}", "*x", "&x", ".inf", "/"} {
		isText(t, str(s), `"`+s+`"`)
	}
	isText(t, str("a\"b\n"), `"a\"b\n"`)
	isText(t, str(`"a"`), `"\"a\""`)
	isText(t, str(`\`), `"\\"`)
	isText(t, str(`\n`), `"\\n"`)
	isText(t, str("\n\t\r"), `"\n\t\r"`)
	isText(t, str("\x00\x01\x0b\x1f\x7f"), `"\x00\x01\x0b\x1f\x7f"`)
	isText(t, str("\u0080\u00e9\u2028\ufeff\ufffd\U0010ffff"), "\"\u0080\u00e9\u2028\ufeff\ufffd\U0010ffff\"")
}

func TestTextOfInts(t *testing.T) {
	for n := -2000; n <= 2000; n++ {
		isText(t, integer(n), fmt.Sprint(n))
	}
	for n := 1; n < api.MaxNum; n *= 10 {
		for _, near := range []int{n - 1, n, n + 1, 2 * n, 9 * n} {
			isText(t, integer(near), fmt.Sprint(near))
			isText(t, integer(-near), fmt.Sprint(-near))
		}
	}
	for n := range 100 {
		isText(t, integer(api.MaxNum-n), fmt.Sprint(api.MaxNum-n))
		isText(t, integer(n-api.MaxNum), fmt.Sprint(n-api.MaxNum))
		isNone(t, integer(api.MaxNum+1+n))
		isNone(t, integer(-api.MaxNum-1-n))
		isRefused(t, fmt.Sprint(api.MaxNum+1+n))
		isRefused(t, fmt.Sprint(-api.MaxNum-1-n))
	}
}

func TestTextOfAnyFields(t *testing.T) {
	count := 0
	for _, x := range anyScalars() {
		got := text(x)
		if want := textByRule(x); got != want {
			t.Errorf("%v: %v, not %v", x, got, want)
		}
		if (got.e == api.OK) != plain.Right(x) {
			t.Errorf("%v: %v", x, got)
		}
		if got.e == api.OK {
			isText(t, x, got.s)
			count++
		}
	}
	// Null, two Bools, the Ints between the greatest ones, and the texts but two.
	if count != 1+2+13+len(textEdges)-2 {
		t.Error(count, "of them are scalars")
	}
}

func TestTextOfWhatIsNoScalar(t *testing.T) {
	for _, x := range []api.Scalar{{Kind: -1}, {Kind: 4}, {Kind: math.MinInt}, {Kind: math.MaxInt}, {Kind: 1 << 32}, {N: 1}, {N: -1}, {S: "a"}, {S: "null"}, {Kind: 1, N: 2}, {Kind: 1, N: -1}, {Kind: 1, S: "a"}, {Kind: 1, N: 1, S: "true"},
		{Kind: 2, N: api.MaxNum + 1}, {Kind: 2, N: math.MinInt}, {Kind: 2, S: "a"}, {Kind: 2, N: 1, S: "1"}, {Kind: 3, N: 1}, {Kind: 3, N: -1, S: "a"}, {Kind: 3, S: "\xff"}, {Kind: 3, S: "a\xc3"}, {Kind: 3, S: "\xed\xa0\x80"}, {Kind: 3, S: "\xc0\x80"}, {Kind: 4, S: "a"}} {
		isNone(t, x)
	}
}

// TestEachSign: of a text, alone and between others; and as it would be without quotes, and behind a backslash.
func TestEachSign(t *testing.T) {
	for n := range rune(utf8.MaxRune + 1) {
		if !utf8.ValidRune(n) {
			continue
		}
		s := string(n)
		if n >= 0x3000 && n&0xff != 0xff && n&0xff != 0 {
			isText(t, str(s), `"`+s+`"`)
			continue
		}
		isText(t, str(s), quotedByRule(s))
		isText(t, str("a"+s+"b"), quotedByRule("a"+s+"b"))
		for _, whole := range []string{s, s + "a", "1" + s, s + "1", "null" + s, `"` + s, s + `"`, `"` + s + `"`, `"` + s + s + `"`, `"\` + s + `"`, `"\` + s + `0"`, `"a"` + s, s + `"a"`, "'" + s + "'"} {
			holds(t, whole)
		}
	}
}

// TestReadEachNumberOfASign: of all ways to tell a sign by digits one is read, of signs that are told so alone.
func TestReadEachNumberOfASign(t *testing.T) {
	count := 0
	for n := range 0x10000 {
		for _, form := range []string{`"\x%02x"`, `"\x%02X"`, `"\u%04x"`, `"\u%04X"`} {
			if n > 0xff && form[2] == 'x' {
				continue
			}
			s := fmt.Sprintf(form, n)
			holds(t, s)
			if read(s).e == api.OK && form == `"\x%02x"` {
				count++
			}
		}
	}
	// The signs below 20, and 7f, but three that have letters.
	if count != 0x20+1-3 {
		t.Error(count)
	}
}

// TestReadOtherTextsThatSayTheSame: what a scalar is elsewhere read from, but is not its text.
func TestReadOtherTextsThatSayTheSame(t *testing.T) {
	for _, s := range []string{"", "~", "Null", "NULL", "True", "TRUE", "False", "yes", "no", "+1", "+0", "-0", "00", "01", "-01", "007", "1.0", "1e3", "1_000", "0x10", "0b1", "0o7", ".5", ".inf", ".nan",
		"a", "a b", "B", "x1", "a\"b\"", "''", "'a'", "'null'", `"\/"`, `"\0"`, `"\x41"`, `"\u0041"`, `"\u00e9"`, `"\x0a"`, `"\x09"`, `"\x0d"`, `"\x0A"`, `"\x1F"`, `"\x7F"`, `"\x22"`, `"\x5c"`, `"\u000b"`, `"\u2028"`, `"\xe9"`, `"\x80"`} {
		isRefused(t, s)
	}
}

func TestReadWrongQuotes(t *testing.T) {
	for _, s := range []string{`"`, `'`, `"a`, `a"`, `"a'`, `'a"`, `"""`, `"a"b`, `"a"b"`, `"a" `, ` "a"`, `"a""b"`, `"a" # b`, `"a":`, `"a",`, `""""`, `"\"`, `"\\\"`, `"\q"`, `"\a"`, `"\X00"`, `"\x"`, `"\x0"`, `"\x0g"`, `"\u"`, `"\u004"`, `"\ud800"`, `"\'"`, `"\ "`,
		"\"\n\"", "\"\t\"", "\"\x00\"", "\"\x7f\"", "\"a\"\n", "\n\"a\"", "\u201ca\u201d", "\ufeff\"a\"", "\uff02a\uff02"} {
		isRefused(t, s)
	}
}

func TestReadWrongWords(t *testing.T) {
	for _, word := range []string{"null", "true", "false", "0", "7", "-1", "10", "-999999999999999", `""`, `"a"`, `"\n"`, `"\x00"`} {
		holds(t, word)
		if read(word).e != api.OK {
			t.Errorf("%q", word)
		}
		for _, s := range []string{" ", "  ", "\n", "\t", "\r", "\x00", "\u00a0", "\ufeff", ":", "#", " #", ",", "]", "[", "- ", "&", "*", "!", "\xff"} {
			isRefused(t, word+s)
			isRefused(t, s+word)
		}
		for at := range len(word) {
			holds(t, word[:at])
			holds(t, word[at:])
			holds(t, word[:at]+word[at+1:])
			for n := range 256 {
				holds(t, word[:at]+string([]byte{byte(n)})+word[at+1:])
				holds(t, word[:at]+string([]byte{byte(n)})+word[at:])
				holds(t, word+string([]byte{byte(n)}))
			}
		}
	}
}

func TestReadNoRightText(t *testing.T) {
	for _, w := range []string{"\x80", "\xbf", "\xff", "\xc3", "\xe2\x82", "\xf0\x9f\x98", "\xc0\x80", "\xc0\xa2", "\xe0\x80\xa2", "\xed\xa0\x80", "\xf4\x90\x80\x80"} {
		for _, s := range []string{w, `"` + w + `"`, `"a` + w + `"`, `"` + w + `a"`, `"` + w, w + `"`, `"a"` + w, w + `"a"`, "1" + w, w + "1", "null" + w, w + "null"} {
			isRefused(t, s)
		}
	}
	// One that stands for what is wrong elsewhere is a sign as all others.
	isText(t, str("\ufffd"), "\"\ufffd\"")
}

// TestReadGreatNumbers: none is an Int, whatever is left of it in 32 or 64 bits.
func TestReadGreatNumbers(t *testing.T) {
	for _, digit := range []string{"1", "9"} {
		for count := 16; count < 100; count++ {
			isRefused(t, strings.Repeat(digit, count))
			isRefused(t, "-"+strings.Repeat(digit, count))
		}
	}
	for _, s := range []string{"9223372036854775807", "9223372036854775808", "-9223372036854775808", "18446744073709551615", "18446744073709551616", "18446744073709551617", "36893488147419103233"} {
		isRefused(t, s)
	}
}

// allShort goes through all texts of at most so many of some pieces.
func allShort(most int, look func(s string), pieces ...string) {
	var below func(s string, left int)
	below = func(s string, left int) {
		look(s)
		if left == 0 {
			return
		}
		for _, p := range pieces {
			below(s+p, left-1)
		}
	}
	below("", most)
}

func TestReadAllShortTexts(t *testing.T) {
	look := func(s string) { holds(t, s) }
	allShort(5, look, `"`, `\`, "'", "x", "n", "0", "1", "f", "a", " ")
	allShort(6, look, "0", "1", "9", "-", "+", ".", "_")
	allShort(4, look, `"`, `\`, `\\`, `\"`, `\n`, `\x00`, `\x1f`, `\x0a`, "/", "\u00e9", "\n", "\xc3", "null", "-", "~")
}

// TestReadManyTexts: of pieces, right and wrong, one behind the other, with quotes and without.
func TestReadManyTexts(t *testing.T) {
	pieces := []string{"a", "B", "0", "1", "9", "12", " ", ":", "#", "-", ",", "[", "'", `"`, `\`, `\\`, `\"`, `\n`, `\t`, `\r`, `\0`, `\/`, `\x`, `\x00`, `\x0b`, `\x1f`, `\x7f`, `\x1F`, `\x41`, `\u`, `\u0000`, `\u0041`,
		"null", "~", "true", "false", ".", "+", "e", "_", "\u00e9", "\u2028", "\ufffd", "\U0001f600", "\n", "\x7f", "\xff", "\xc3"}
	right := []string{"a", "B", "0", " ", ":", "'", "/", `\\`, `\"`, `\n`, `\t`, `\r`, `\x00`, `\x0b`, `\x1f`, `\x7f`, "n", "x00", "null", "\u00e9", "\u2028", "\ufffd", "\U0001f600"}
	c := chance(1)
	for i := range 200000 {
		from := pieces
		if i%2 == 1 {
			from = right
		}
		s := ""
		for range c.below(9) {
			s += from[c.below(len(from))]
		}
		holds(t, s)
		holds(t, `"`+s+`"`)
	}
}

// TestReadLongTexts: they are gone through a few times, or this takes hours.
func TestReadLongTexts(t *testing.T) {
	const n = 1 << 20
	for _, part := range []string{"a", " ", "\"", "\\", "\n", "\x00", "\u00e9", "\U0001f600", "a\"b\\"} {
		s := strings.Repeat(part, n)
		q := quotedByRule(s)
		if (text(str(s)) != told{s: q}) || (read(q) != told{x: str(s)}) {
			t.Errorf("%d times %q", n, part)
		}
		for _, wrong := range []string{q[1:], q + q, q + " ", " " + q, q + "\xff", `"\/` + q[1:], q[:len(q)-1] + `\0"`, s, "'" + s + "'"} {
			if read(wrong) != (told{e: api.ErrScalar}) {
				t.Errorf("%d times %q: %.20q.. is read", n, part, wrong)
			}
		}
	}
	for _, s := range []string{"1", "-1", "0", "-", "null", "1.", "\"1"} {
		if read(strings.Repeat(s, n)) != (told{e: api.ErrScalar}) {
			t.Errorf("%d times %q", n, s)
		}
	}
}

// P6.2: Sort

// sortedByRule are those of a list, each put in ahead of the first one that it is ahead of.
func sortedByRule(l []api.Scalar) []api.Scalar {
	var out []api.Scalar
	for _, x := range l {
		at := 0
		for at < len(out) && compareByRule(x, out[at]) >= 0 {
			at++
		}
		out = slices.Insert(out, at, x)
	}
	return out
}

// isSorted says whether a list is put in order, as its rule says, and stays as it was.
func isSorted(t *testing.T, l []api.Scalar) {
	t.Helper()
	old := slices.Clone(l)
	if got, want := scal.Sort(l), sortedByRule(l); !slices.Equal(got, want) {
		t.Errorf("%.200v: %.200v, not %.200v", old, got, want)
	}
	if !slices.Equal(l, old) {
		t.Errorf("%.200v is %.200v now", old, l)
	}
}

// someScalars are of any fields, some of which differ in one field alone.
func someScalars() []api.Scalar {
	return grid([]int{-5, 0, 1, 2, 3, 9}, []int{-api.MaxNum - 1, -1, 0, 1, 10}, []string{"", "B", "a", "aa", "\xff"})
}

func TestSortKnown(t *testing.T) {
	l := []api.Scalar{null(), boolean(0), boolean(1), integer(-1), integer(10), str(""), str("B"), str("a")}
	back := slices.Clone(l)
	slices.Reverse(back)
	for _, given := range [][]api.Scalar{l, back} {
		if got := scal.Sort(given); !slices.Equal(got, l) {
			t.Error(got)
		}
		isSorted(t, given)
	}
	if len(scal.Sort(nil)) != 0 || len(scal.Sort([]api.Scalar{})) != 0 {
		t.Error(scal.Sort(nil), scal.Sort([]api.Scalar{}))
	}
	for _, x := range someScalars() {
		isSorted(t, []api.Scalar{x})
	}
}

// TestSortAllShortLists: of a few scalars, each as often as it is there.
func TestSortAllShortLists(t *testing.T) {
	some := []api.Scalar{{Kind: -1, S: "z"}, null(), {S: "a"}, boolean(1), integer(-3), str("a"), str("b")}
	var below func(l []api.Scalar, left int)
	below = func(l []api.Scalar, left int) {
		isSorted(t, l)
		if left == 0 {
			return
		}
		for _, x := range some {
			below(append(slices.Clone(l), x), left-1)
		}
	}
	below(nil, 5)
}

func TestSortManyLists(t *testing.T) {
	some := someScalars()
	c := chance(1)
	for range 3000 {
		l := make([]api.Scalar, c.below(80))
		of := 1 + c.below(len(some))
		for i := range l {
			l[i] = some[c.below(of)]
		}
		isSorted(t, l)
	}
}

func TestSortLongLists(t *testing.T) {
	const n = 1 << 18
	rising, same, few := make([]api.Scalar, n), make([]api.Scalar, n), make([]api.Scalar, n)
	for i := range n {
		rising[i], same[i], few[i] = integer(i-n/2), str("a"), str(strconv.Itoa(i%7))
	}
	falling := slices.Clone(rising)
	slices.Reverse(falling)
	mixed := slices.Clone(rising)
	c := chance(1)
	for i := range mixed {
		k := c.below(i + 1)
		mixed[i], mixed[k] = mixed[k], mixed[i]
	}
	for _, l := range [][]api.Scalar{rising, falling, mixed} {
		if !slices.Equal(scal.Sort(l), rising) {
			t.Error("numbers")
		}
	}
	if !slices.Equal(scal.Sort(same), same) {
		t.Error("one, often")
	}
	want := slices.Clone(few)
	slices.SortStableFunc(want, compareByRule)
	if !slices.Equal(scal.Sort(few), want) {
		t.Error("a few, often")
	}
}

// TestSortWritesNothing: neither into the list that it is handed, nor into its spare room.
func TestSortWritesNothing(t *testing.T) {
	room := []api.Scalar{str("d"), str("c"), str("b"), str("a"), str("z"), str("y")}
	old := slices.Clone(room)
	for n := range room {
		got := scal.Sort(room[:n])
		if !slices.Equal(room, old) {
			t.Fatal(n, room)
		}
		// What is written into the answer, or behind it, is in no list that was handed in.
		for i := range got {
			got[i] = null()
		}
		_ = append(got, null(), null())
		if !slices.Equal(room, old) {
			t.Fatal(n, room)
		}
	}
}

func TestSortAnswersAreNewMemory(t *testing.T) {
	l := []api.Scalar{str("a"), str("b"), str("c")}
	x, y := scal.Sort(l), scal.Sort(l)
	x[0] = null()
	_ = append(x[:1], null(), null())
	if !slices.Equal(y, l) || !slices.Equal(scal.Sort(l), l) {
		t.Error(y, scal.Sort(l))
	}
	// Those of an answer may be handed in again.
	if again := scal.Sort(y[1:]); !slices.Equal(again, l[1:]) {
		t.Error(again)
	}
}

// TestTextsAreNewMemory: no answer's text is a piece of what was handed in, nor of another one.
func TestTextsAreNewMemory(t *testing.T) {
	one := str("abc")
	l := []api.Scalar{one, one, {Kind: 7, S: one.S}}
	seen := map[*byte]bool{unsafe.StringData(one.S): true}
	isNew := func(s string) {
		t.Helper()
		if at := unsafe.StringData(s); seen[at] {
			t.Errorf("%q is in old memory", s)
		} else {
			seen[at] = true
		}
	}
	for range 2 {
		for _, x := range scal.Sort(l) {
			isNew(x.S)
		}
	}
	s := `"abc"`
	seen[unsafe.StringData(s)], seen[unsafe.StringData(s[1:])] = true, true
	isNew(read(s).x.S)
	isNew(read(s).x.S)
	isNew(text(one).s)
	isNew(text(one).s)
}

// P6.2: Twice

// twiceByRule holds each two against each other.
func twiceByRule(l []api.Scalar) bool {
	for i, x := range l {
		for _, y := range l[:i] {
			if compareByRule(x, y) == 0 {
				return true
			}
		}
	}
	return false
}

func isTwice(t *testing.T, want bool, l ...api.Scalar) {
	t.Helper()
	old := slices.Clone(l)
	if got := scal.Twice(l); got != want || twiceByRule(l) != want {
		t.Errorf("%.200v: %v", l, got)
	}
	if !slices.Equal(l, old) {
		t.Errorf("%.200v is %.200v now", old, l)
	}
}

func TestTwiceKnown(t *testing.T) {
	isTwice(t, false)
	isTwice(t, false, []api.Scalar{}...)
	isTwice(t, false, null())
	isTwice(t, true, null(), null())
	isTwice(t, false, null(), boolean(0), boolean(1), integer(-1), integer(10), str(""), str("B"), str("a"))
	isTwice(t, false, null(), str("null"), boolean(1), str("true"), integer(1), str("1"), str("~"), integer(0), boolean(0))
	isTwice(t, true, str("a"), str("b"), str("a"))
	isTwice(t, true, str("a"), str("a"), str("b"))
	isTwice(t, true, str("b"), str("a"), str("a"))
	isTwice(t, true, integer(1), integer(1), integer(1))
	isTwice(t, false, str("a"), str("A"), str("a "), str("\u00e9"), str("e\u0301"))
}

// TestTwiceOfAnyFields: they are the same, if all fields are.
func TestTwiceOfAnyFields(t *testing.T) {
	some := someScalars()
	isTwice(t, false, some...)
	for i, x := range some {
		isTwice(t, true, append(slices.Clone(some), x)...)
		isTwice(t, true, slices.Insert(slices.Clone(some), len(some)-i, x)...)
		for k, y := range some {
			isTwice(t, i == k, x, y)
		}
	}
	if l := anyScalars(); scal.Twice(l) || !scal.Twice(append(l, l[len(l)/2])) {
		t.Error("of any fields")
	}
}

// TestTwiceAtAllPlaces: wherever both stand.
func TestTwiceAtAllPlaces(t *testing.T) {
	const n = 40
	for i := range n {
		for k := range i {
			l := make([]api.Scalar, n)
			for at := range l {
				l[at] = str(strconv.Itoa(at))
			}
			isTwice(t, false, l...)
			l[i] = l[k]
			isTwice(t, true, l...)
		}
	}
}

// TestTwiceOfTextsInDifferentMemory: what they say is the same.
func TestTwiceOfTextsInDifferentMemory(t *testing.T) {
	s := "abc"
	isTwice(t, true, str(s), str(strings.Clone(s)))
	isTwice(t, true, str("xabcx"[1:4]), str("a"+s[1:]))
}

func TestTwiceLongLists(t *testing.T) {
	const n = 1 << 20
	l := make([]api.Scalar, n)
	for i := range l {
		l[i] = integer(i)
		if i%2 == 0 {
			l[i] = str(strconv.Itoa(i))
		}
	}
	if scal.Twice(l) || !scal.Twice(append(l, l[0])) || !scal.Twice(append(l, l[n-1])) {
		t.Error(n)
	}
}

// P6.3

// TestTextsTellScalars: no two have the same text, and each is read as the one that it is the text of.
func TestTextsTellScalars(t *testing.T) {
	seen := map[string]api.Scalar{}
	look := func(x api.Scalar) {
		got := text(x)
		if got.e != api.OK {
			return
		}
		if y, ok := seen[got.s]; ok && y != x {
			t.Errorf("%v and %v are %q", x, y, got.s)
		}
		seen[got.s] = x
		isText(t, x, got.s)
	}
	for _, x := range anyScalars() {
		look(x)
	}
	allShort(5, func(s string) { look(str(s)) }, "a", "n", "x", "0", `"`, `\`, "\n", "\x00")
	for _, s := range []string{"null", "true", "false", "0", "-1", "~", ""} {
		look(str(s))
		look(str(quotedByRule(s)))
		look(str(quotedByRule(quotedByRule(s))))
	}
}

// TestOrderOfThree: what is ahead of what is ahead of a third one is ahead of that.
func TestOrderOfThree(t *testing.T) {
	l := someScalars()
	for _, x := range l {
		for _, y := range l {
			if scal.Compare(x, y) != -scal.Compare(y, x) || (scal.Compare(x, y) == 0) != (x == y) {
				t.Errorf("%v %v", x, y)
			}
			if scal.Compare(x, y) >= 0 {
				continue
			}
			for _, z := range l {
				if scal.Compare(y, z) < 0 && scal.Compare(x, z) >= 0 {
					t.Errorf("%v %v %v", x, y, z)
				}
			}
		}
	}
}

// TestSameAnswersAgain: nothing is kept.
func TestSameAnswersAgain(t *testing.T) {
	texts := []string{"1", "01", "a", "", "null", "true", `"a"`, `"a`, `"\/"`, "\xff"}
	for range 3 {
		for _, a := range texts {
			for _, b := range texts {
				holds(t, a)
				holds(t, b)
				isTwice(t, a == b, str(a), str(b))
				isSorted(t, []api.Scalar{str(a), str(b), integer(1)})
			}
		}
	}
}
