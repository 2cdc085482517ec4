package plain_test

import (
	"math"
	"math/big"
	"regexp"
	"strconv"
	"strings"
	"testing"
	"unicode/utf8"

	"sigillary/api"
	"sigillary/plain"
)

// What makes a text one that may not stand plain, by patterns: anywhere, and in a flow as well.
var (
	wrong       = regexp.MustCompile("^$|^ | $|^[,\\[\\]{}#&*!|>'\"%@`]|^[-?:](?: |$)|:(?: |$)| #|[\\x00-\\x1f\\x7f]")
	wrongInFlow = regexp.MustCompile(`[,\[\]{}]`)
)

func mayByRule(s string, flow bool) bool {
	return utf8.ValidString(s) && !wrong.MatchString(s) && !(flow && wrongInFlow.MatchString(s))
}

// told is what a call of Resolve, or of Read, answers.
type told struct {
	x api.Scalar
	e api.Errno
}

func null() told             { return told{x: api.Scalar{Kind: api.Null}} }
func boolean(n int) told     { return told{x: api.Scalar{Kind: api.Bool, N: n}} }
func integer(n int) told     { return told{x: api.Scalar{Kind: api.Int, N: n}} }
func text(s string) told     { return told{x: api.Scalar{Kind: api.Str, S: s}} }
func fault(e api.Errno) told { return told{e: e} }

func resolved(s string) told {
	x, e := plain.Resolve(s)
	return told{x, e}
}

func read(s string, flow bool) told {
	x, e := plain.Read(s, flow)
	return told{x, e}
}

var (
	number   = regexp.MustCompile(`^[+-]?(?:[0-9]|\.[0-9])[0-9.eE+\-_]*$`)
	anInt    = regexp.MustCompile(`^(?:0|-?[1-9][0-9]*)$`)
	infinite = regexp.MustCompile(`^(?:\.inf|\+\.inf|-\.inf|\.nan)$`)
	mostInt  = big.NewInt(999999999999999)
)

// valueByRule is what Resolve should answer of a text that is empty, or may stand plain.
func valueByRule(s string) told {
	switch {
	case s == "" || s == "null" || s == "~":
		return null()
	case s == "true":
		return boolean(1)
	case s == "false":
		return boolean(0)
	case infinite.MatchString(s):
		return fault(api.ErrFloat)
	case !number.MatchString(s):
		return text(s)
	case !anInt.MatchString(s):
		return fault(api.ErrFloat)
	}
	n, _ := new(big.Int).SetString(s, 10)
	if n.CmpAbs(mostInt) > 0 {
		return fault(api.ErrFloat)
	}
	return integer(int(n.Int64()))
}

func resolvedByRule(s string) told {
	if s != "" && !mayByRule(s, false) {
		return fault(api.ErrPlain)
	}
	return valueByRule(s)
}

func readByRule(s string, flow bool) told {
	if !mayByRule(s, flow) {
		return fault(api.ErrPlain)
	}
	return valueByRule(s)
}

// holds says whether all calls answer of a text what their rules say, and what follows from them (P5.3) is true of it.
func holds(t *testing.T, s string) {
	t.Helper()
	for _, flow := range []bool{false, true} {
		if got, want := plain.May(s, flow), mayByRule(s, flow); got != want {
			t.Errorf("May(%.80q, %v): %v, not %v", s, flow, got, want)
		}
		if got, want := read(s, flow), readByRule(s, flow); got != want {
			t.Errorf("Read(%.80q, %v): %.80v, not %.80v", s, flow, got, want)
		}
	}
	got := resolved(s)
	if want := resolvedByRule(s); got != want {
		t.Errorf("Resolve(%.80q): %.80v, not %.80v", s, got, want)
	}
	if !plain.Right(got.x) {
		t.Errorf("%.80q is no scalar: %.80v", s, got)
	}
	if plain.May(s, true) && !plain.May(s, false) {
		t.Errorf("%.80q may stand in a flow alone", s)
	}
	if got.x.Kind == api.Int && strconv.Itoa(got.x.N) != s {
		t.Errorf("%.80q is %d", s, got.x.N)
	}
}

// isTold says whether a text that may stand plain, in a flow too, is told as that.
func isTold(t *testing.T, s string, want told) {
	t.Helper()
	holds(t, s)
	for _, got := range []told{resolved(s), read(s, false), read(s, true)} {
		if got != want || !plain.May(s, false) || !plain.May(s, true) {
			t.Errorf("%.80q: %.80v, not %.80v", s, got, want)
		}
	}
}

// isRefused says whether a text is one that may stand nowhere.
func isRefused(t *testing.T, s string) {
	t.Helper()
	holds(t, s)
	for _, got := range []told{resolved(s), read(s, false), read(s, true)} {
		if got != fault(api.ErrPlain) || plain.May(s, false) || plain.May(s, true) {
			t.Errorf("%.80q: %.80v", s, got)
		}
	}
}

// isNoneInFlow says whether a text may stand plain, but not in a flow.
func isNoneInFlow(t *testing.T, s string) {
	t.Helper()
	holds(t, s)
	if resolved(s) != text(s) || read(s, false) != text(s) || !plain.May(s, false) {
		t.Errorf("%.80q: %.80v, %.80v", s, resolved(s), read(s, false))
	}
	if read(s, true) != fault(api.ErrPlain) || plain.May(s, true) {
		t.Errorf("%.80q: %.80v", s, read(s, true))
	}
}

// allShort goes through all texts of at most so many of some pieces.
func allShort(most int, look func(s string), pieces ...string) {
	var below func(s string, left int)
	below = func(s string, left int) {
		look(s)
		if left == 0 {
			return
		}
		for _, p := range pieces {
			below(s+p, left-1)
		}
	}
	below("", most)
}

func TestNumbersOfErrorsAndKinds(t *testing.T) {
	if api.ErrFloat != 50 || api.ErrPlain != 51 {
		t.Error(api.ErrFloat, api.ErrPlain)
	}
	if api.Null != 0 || api.Bool != 1 || api.Int != 2 || api.Str != 3 || api.MaxNum != 999999999999999 {
		t.Error(api.Null, api.Bool, api.Int, api.Str, api.MaxNum)
	}
}

// P5.1

func TestMayKnown(t *testing.T) {
	for _, s := range []string{"a", "a b", "a  b", "a:b", "a::b", "a :b", ":a", "::a", "-a", "--", "---", "-#", "?a", "??", "?-", "a#b", "a#", "a-", "a?", "a -", "a ?", "a - b", "a ? b",
		"a&b", "a*b", "a!", "a|b", "a>b", "a'b", "it's", "a\"b\"", "a%b", "a@b", "a`b", `a\b`, `\`, "/", "(", ")", "$", "+", ";", "<", "=", "^", "_", "~", ".", "..."} {
		if !plain.May(s, false) || !plain.May(s, true) {
			t.Errorf("%q: %v %v", s, plain.May(s, false), plain.May(s, true))
		}
		holds(t, s)
	}
	for _, s := range []string{" ", "  ", " a", "a ", "  a", "a  ", ":", "-", "?", ": ", "- ", "? ", ": a", "- a", "? a", "-:", "?:", "-: a", "a:", "a: b", "a:  b", "a::", "a:: b", "a #", "a #b", "a  #b",
		",", "[", "]", "{", "}", "#", "&", "*", "!", "|", ">", "'", `"`, "%", "@", "`", ",a", "[a]", "{a}", "#a", "&a", "*a", "!a", "|a", ">a", "'a'", `"a"`, "%a", "@a", "`a"} {
		isRefused(t, s)
	}
	for _, s := range []string{"a,b", "a,", "a[", "a]b", "a{b", "a}", "-,", "-[", "?]", "-{", "?}", ":,", "a,b,c", "a, b", "a b]"} {
		isNoneInFlow(t, s)
	}
}

// TestEachSign: alone, first, last, and between others.
func TestEachSign(t *testing.T) {
	const most = 0x3000 // from here on many at once, one behind the other
	for n := range rune(most) {
		s := string(n)
		for _, whole := range []string{s, s + "a", "a" + s, "a" + s + "b"} {
			holds(t, whole)
		}
	}
	for from := rune(most); from <= utf8.MaxRune; from += 0x100 {
		var b strings.Builder
		for n := from; n < from+0x100; n++ {
			if utf8.ValidRune(n) {
				b.WriteRune(n)
			}
		}
		if s := b.String(); s != "" {
			isTold(t, s, text(s))
		}
	}
}

// TestAllSignsInPairs: of those below 80, any two, alone and between others.
func TestAllSignsInPairs(t *testing.T) {
	for a := range 0x80 {
		for b := range 0x80 {
			s := string([]byte{byte(a), byte(b)})
			for _, whole := range []string{s, s + "c", "c" + s, "c" + s + "c"} {
				holds(t, whole)
			}
		}
	}
}

func TestAllShortTexts(t *testing.T) {
	look := func(s string) { holds(t, s) }
	allShort(4, look, " ", ":", "-", "?", "#", ",", "]", "{", "a", "\n", "\u00e9", "\u00a0", "'", "&", "0")
	allShort(8, look, " ", ":", "#", "-", "a")
}

// TestNoRightText: wherever it is wrong.
func TestNoRightText(t *testing.T) {
	for _, w := range []string{"\x80", "\xbf", "\xff", "\xc3", "\xc3a", "\xe2\x82", "\xf0\x9f\x98", "\xc0\x80", "\xc1\xa1", "\xe0\x80\x80", "\xed\xa0\x80", "\xed\xbf\xbf", "\xf4\x90\x80\x80", "\xf8\x88\x80\x80\x80"} {
		for _, s := range []string{w, "a" + w, w + "a", "a" + w + "b", "1" + w, w + "1", "null" + w, strings.Repeat("a", 1000) + w, ".inf" + w} {
			isRefused(t, s)
		}
	}
	// One that stands for what is wrong elsewhere is a sign as all others.
	isTold(t, "a\ufffdb", text("a\ufffdb"))
	isTold(t, "\ufffd", text("\ufffd"))
}

// TestWhatIsTakenForABlankElsewhere: a blank is just the byte 20.
func TestWhatIsTakenForABlankElsewhere(t *testing.T) {
	for _, s := range []string{"\u0080", "\u0085", "\u00a0", "\u1680", "\u2003", "\u2028", "\u2029", "\u202f", "\u205f", "\u3000", "\ufeff"} {
		for _, whole := range []string{s, s + "a", "a" + s, "a:" + s + "b", "-" + s, "?" + s, ":" + s, "a" + s + "#b"} {
			isTold(t, whole, text(whole))
		}
		isRefused(t, s+":")
		isRefused(t, s+" #")
	}
	for _, s := range []string{"\t", "\n", "\r", "\v", "\f", "\x00", "\x1f", "\x7f"} {
		for _, whole := range []string{s, s + "a", "a" + s, "a:" + s + "b", "-" + s, "a" + s + "#b", "1" + s, s + "1"} {
			isRefused(t, whole)
		}
	}
}

func TestWhatIsTakenForAMarkElsewhere(t *testing.T) {
	for _, s := range []string{"\uff1a", "\uff0c", "\uff3b", "\uff5b", "\uff03", "\uff0d", "\u2010", "\u2212", "\u201c", "\u2019", "\u013a", "\u012c", "\u017b", "\u0123", "\U0001f52d"} {
		isTold(t, s, text(s))
		isTold(t, s+" a", text(s+" a"))
		isTold(t, "a "+s, text("a "+s))
	}
}

// rightByRule is a table of what the kinds' fields may be.
func rightByRule(x api.Scalar) bool {
	least, most := 0, 0
	switch x.Kind {
	case 0, 3:
	case 1:
		most = 1
	case 2:
		least, most = -999999999999999, 999999999999999
	default:
		return false
	}
	return least <= x.N && x.N <= most && (x.S == "" || x.Kind == 3 && utf8.ValidString(x.S))
}

func TestRight(t *testing.T) {
	kinds := []int{math.MinInt, -1 << 32, -4, -3, -2, -1, 0, 1, 2, 3, 4, 5, 10, 256, 257, 1 << 32, 1<<32 + 1, 1<<32 + 2, 1<<32 + 3, math.MaxInt}
	numbers := []int{math.MinInt, math.MinInt + 1, -1000000000000000, -999999999999999, -999999999999998, -1 << 32, -2, -1, 0, 1, 2, 3, 256, 1 << 31, 1 << 32, 1<<32 + 1, 999999999999998, 999999999999999, 1000000000000000, 1 << 62, math.MaxInt}
	texts := []string{"", "a", "1", "null", " ", "\x00", "\n", "\u00e9", "\ufffd", "\U0010ffff", "a\xff", "\xff", "\xc3", "\xed\xa0\x80", "\xc0\x80", "\xf4\x90\x80\x80"}
	count := 0
	for _, kind := range kinds {
		for _, n := range numbers {
			for _, s := range texts {
				x := api.Scalar{Kind: kind, N: n, S: s}
				want := rightByRule(x)
				if plain.Right(x) != want {
					t.Errorf("%v: not %v", x, want)
				}
				if want {
					count++
				}
			}
		}
	}
	if count != 1+2+15+10 {
		t.Error(count, "of them are scalars")
	}
}

// P5.2

func TestResolveKnown(t *testing.T) {
	if resolved("") != null() {
		t.Error(resolved(""))
	}
	isTold(t, "null", null())
	isTold(t, "~", null())
	isTold(t, "true", boolean(1))
	isTold(t, "false", boolean(0))
	isTold(t, "0", integer(0))
	isTold(t, "-12", integer(-12))
	isTold(t, "a:b", text("a:b"))
	isTold(t, "1a", text("1a"))
	isTold(t, "it's", text("it's"))
	for _, s := range []string{"1.5", "01", ".inf", "+.inf", "-.inf", ".nan"} {
		isTold(t, s, fault(api.ErrFloat))
	}
}

func TestEmptyTextHasAValueButStandsNowhere(t *testing.T) {
	holds(t, "")
	if read("", false) != fault(api.ErrPlain) || read("", true) != fault(api.ErrPlain) || plain.May("", false) || plain.May("", true) {
		t.Error(read("", false), read("", true))
	}
}

// TestWordsAreJustThemselves: one that is like another one says itself.
func TestWordsAreJustThemselves(t *testing.T) {
	for _, s := range []string{"Null", "NULL", "nULL", "nul", "nulls", "xnull", "nil", "~~", "~a", "a~", "True", "TRUE", "tRUE", "tru", "truee", "False", "FALSE", "fals", "falsey", "yes", "no", "on", "off", "y", "n", "t", "f",
		".Inf", ".INF", "+.Inf", "-.INF", "inf", "+inf", "-inf", "+.nan", "-.nan", ".NaN", ".NAN", "nan", ".in", ".infx", "x.inf", "..inf", "++.inf", "+-.inf", ".na", ".nann", ".inf.", "0.inf", "null null", "true false", "null:null", "~:~", "null#"} {
		isTold(t, s, text(s))
	}
	for _, word := range []string{"null", "~", "true", "false", ".inf", "+.inf", "-.inf", ".nan"} {
		for _, s := range []string{"", " ", "\n", "\x00", "a", "0", ".", "-", "+", "~", "\u00e9", "E", "e"} {
			for at := range len(word) + 1 {
				holds(t, word[:at]+s+word[at:])
				if at < len(word) {
					holds(t, word[:at]+s+word[at+1:])
				}
			}
		}
		isRefused(t, " "+word)
		isRefused(t, word+" ")
		isRefused(t, word+":")
		isRefused(t, word+" #")
		isNoneInFlow(t, word+",")
		isNoneInFlow(t, word+"]")
	}
}

func TestInts(t *testing.T) {
	for n := -2000; n <= 2000; n++ {
		isTold(t, strconv.Itoa(n), integer(n))
	}
	for n := 1; n < api.MaxNum; n *= 10 {
		for _, near := range []int{n - 1, n, n + 1, 2 * n, 9 * n} {
			isTold(t, strconv.Itoa(near), integer(near))
			isTold(t, strconv.Itoa(-near), integer(-near))
		}
	}
	isTold(t, "123456789012345", integer(123456789012345))
	for n := range 1000 {
		isTold(t, strconv.Itoa(api.MaxNum-n), integer(api.MaxNum-n))
		isTold(t, strconv.Itoa(n-api.MaxNum), integer(n-api.MaxNum))
		isTold(t, strconv.Itoa(api.MaxNum+1+n), fault(api.ErrFloat))
		isTold(t, strconv.Itoa(-api.MaxNum-1-n), fault(api.ErrFloat))
	}
}

// TestGreatNumbers: none is one of an Int, whatever is left of it in 32 or 64 bits.
func TestGreatNumbers(t *testing.T) {
	n := new(big.Int)
	for shift := uint(50); shift < 200; shift++ {
		for near := int64(-2); near <= 2; near++ {
			n.Lsh(big.NewInt(1), shift)
			n.Add(n, big.NewInt(near))
			isTold(t, n.String(), fault(api.ErrFloat))
			isTold(t, "-"+n.String(), fault(api.ErrFloat))
		}
	}
	for _, digit := range []string{"1", "9"} {
		for count := 16; count < 300; count++ {
			isTold(t, strings.Repeat(digit, count), fault(api.ErrFloat))
			isTold(t, "-"+strings.Repeat(digit, count), fault(api.ErrFloat))
		}
	}
}

func TestNumbersThatHaveNoValue(t *testing.T) {
	for _, s := range []string{"00", "000", "01", "007", "-0", "-00", "-01", "+0", "+1", "+12", "+01", "1.5", "-1.5", "+1.5", "1.", "1..", "1.0", "0.", ".0", ".5", "-.5", "+.5", ".5.", ".5e3", "1e5", "1E5", "1e", "1E", "1e+5", "1e-5", "-1e5", "1_000", "1_", "1-", "1+", "1-2", "1+1", "0-0", "0_", "0e", "0E0", "2001-01-01", "1.2.3", "1eE+-_.", ".1_", "0000000000000000001", "-0000000000000000000"} {
		isTold(t, s, fault(api.ErrFloat))
	}
}

// TestLikeNumbersButStr: each misses one part of what looks like a number.
func TestLikeNumbersButStr(t *testing.T) {
	for _, s := range []string{"+", "+-1", "-+1", "++1", "--1", "+a", "-a", ".", "..", "..5", "-..5", "+.", "-.", ".e5", "e5", "E5", "_1", "-_1", "+_1", "._1", ".-1", ".+1", "-.e1", "1a", "0x10", "0o7", "0b1", "1f", "1d", "1 2", "1 000", "1:30", "1/2", "1%", "1$", "1#", "1e5x", "-1a", "+1a", ".5a", "1\u00e9", "\u00e91", "1~", "a1", "Infinity", "NaN", "1'000",
		"\u0660", "\u0661", "\uff11", "\u096a", "\U0001d7d8", "1\u0660", "-\uff11", ".\uff11", "\u00b2", "\u2460", "\u22121", "1\u00a0"} {
		isTold(t, s, text(s))
	}
	for _, s := range []string{"1,5", "1,000", "1]", "1[0]", "0{", "-1}", "1.5,"} {
		isNoneInFlow(t, s)
	}
}

func TestAllShortNumbers(t *testing.T) {
	look := func(s string) { holds(t, s) }
	allShort(5, look, "0", "1", "9", ".", "e", "E", "+", "-", "_", "a", ",")
	allShort(7, look, "0", "3", ".", "-", "+")
}

// TestEachSignInANumber: at each place, instead of what stands there, and ahead of it.
func TestEachSignInANumber(t *testing.T) {
	for _, s := range []string{"12", "-1", "+.1", "1.5", "0"} {
		for n := range rune(0x3000) {
			for at := range len(s) + 1 {
				holds(t, s[:at]+string(n)+s[at:])
				if at < len(s) {
					holds(t, s[:at]+string(n)+s[at+1:])
				}
			}
		}
	}
}

// TestWhatMayNotStandIsToldFirst: a text that has no value, and may not stand plain.
func TestWhatMayNotStandIsToldFirst(t *testing.T) {
	for _, s := range []string{"1.5", "01", "+1", ".inf", "-.inf", ".nan", "1000000000000000"} {
		isTold(t, s, fault(api.ErrFloat))
		for _, whole := range []string{" " + s, s + " ", s + ":", s + " #", s + "\n", "\t" + s, "[" + s, "'" + s + "'", "- " + s, "*" + s, s + ": " + s, s + "\xff"} {
			isRefused(t, whole)
		}
	}
}

// TestQuotesAreNotReadHere: a text that begins with one may not stand plain.
func TestQuotesAreNotReadHere(t *testing.T) {
	for _, s := range []string{`"a"`, `'a'`, `"`, `'`, `""`, `''`, `"1"`, `'null'`} {
		isRefused(t, s)
	}
	isTold(t, `a"b"`, text(`a"b"`))
	isTold(t, `\"a\"`, text(`\"a\"`))
	isTold(t, `\n`, text(`\n`))
	isTold(t, `a''b`, text(`a''b`))
}

// TestFlow: what may stand in a list or a map between brackets, and what elsewhere alone.
func TestFlow(t *testing.T) {
	for _, mark := range []string{",", "[", "]", "{", "}"} {
		isRefused(t, mark)
		isRefused(t, mark+"a")
		isNoneInFlow(t, "a"+mark)
		isNoneInFlow(t, "a"+mark+"b")
		isNoneInFlow(t, "a "+mark+" b")
		isNoneInFlow(t, "-"+mark)
		isNoneInFlow(t, "?"+mark)
		isNoneInFlow(t, ":"+mark)
		isNoneInFlow(t, "a:"+mark)
		isNoneInFlow(t, "a"+mark+"#")
		isNoneInFlow(t, "\u00e9"+mark+"\u00e9")
	}
}

// P5.3 is asked by holds of each text above, too.

func TestEachValueHasItsDigits(t *testing.T) {
	seen := map[int]string{}
	allShort(6, func(s string) {
		got := resolved(s)
		if got.x.Kind != api.Int {
			return
		}
		if other, ok := seen[got.x.N]; ok {
			t.Errorf("%q and %q are %d", s, other, got.x.N)
		}
		seen[got.x.N] = s
	}, "0", "1", "7", "-", "+", ".", "_")
	// Of one digit to six, and of a mark and one to five, without a nought ahead; and 0.
	want := 1
	for count, of := 1, 2; count <= 6; count, of = count+1, of*3 {
		want += of
		if count < 6 {
			want += of
		}
	}
	if len(seen) != want {
		t.Error(len(seen), want)
	}
}

// TestManyTexts: of pieces, right and wrong, one behind the other.
func TestManyTexts(t *testing.T) {
	pieces := []string{"a", "b", "Z", "0", "1", "9", "12", " ", " ", "  ", ":", ": ", " :", "#", " #", "-", "- ", "?", "? ", ",", "[", "]", "{", "}", "&", "*", "!", "|", ">", "'", `"`, "%", "@", "`", `\`,
		"null", "~", "true", "false", ".inf", ".nan", ".", "+", "e", "E", "_", "\u00e9", "\u00a0", "\u2028", "\ufeff", "\ufffd", "\U0001f600", "\n", "\t", "\x7f", "\xff", "\xc3"}
	x := uint32(1)
	next := func(n int) int {
		x = x*1664525 + 1013904223
		return int(x>>8) % n
	}
	for range 200000 {
		s := ""
		for range next(9) {
			s += pieces[next(len(pieces))]
		}
		holds(t, s)
	}
}

// TestSameAnswersAgain: nothing is kept.
func TestSameAnswersAgain(t *testing.T) {
	texts := []string{"1", "01", "a", "", " ", "null", "true", "a,b", "\xff", ".inf"}
	for range 3 {
		for _, a := range texts {
			for _, b := range texts {
				holds(t, a)
				holds(t, b)
			}
		}
	}
}

// TestLongTexts: they are gone through a few times, or this takes hours.
func TestLongTexts(t *testing.T) {
	const n = 1 << 20
	long := func(s string, want, inFlow told) {
		t.Helper()
		if resolved(s) != want || read(s, false) != want {
			t.Errorf("%.20q..: %.80v, %.80v, not %.80v", s, resolved(s), read(s, false), want)
		}
		if read(s, true) != inFlow {
			t.Errorf("%.20q.. in a flow: %.80v, not %.80v", s, read(s, true), inFlow)
		}
	}
	none, float := fault(api.ErrPlain), fault(api.ErrFloat)
	for _, part := range []string{"a", ":a", "a#", "-a", "a ", "\u00e9", "\U0001f600"} {
		s := strings.Repeat(part, n) + "a"
		long(s, text(s), text(s))
		long(s+",", text(s+","), none)
		long(s+" ", none, none)
		long(s+": a", none, none)
		long(s+"\xff", none, none)
	}
	for _, part := range []string{"0", "_", ".", "e"} {
		s := "1" + strings.Repeat(part, n)
		long(s, float, float)
		long(s+"a", text(s+"a"), text(s+"a"))
	}
}
