package tag_test

import (
	"crypto/hmac"
	"crypto/sha256"
	"encoding/hex"
	"math"
	"slices"
	"strings"
	"testing"
	"time"

	"sigillary/api"
	"sigillary/digest"
	"sigillary/tag"
)

const (
	mostKey  = 100000 // bytes that a key has
	mostText = 99936  // bytes that a text has
)

// textEdges are lengths next to those at which what is hashed grows by a block, and the greatest ones.
var textEdges = []int{0, 1, 8, 54, 55, 56, 57, 63, 64, 65, 119, 120, 127, 128, 129, 8191, 8192, mostText - 64, mostText - 1, mostText}

// text has n bytes, which look like chance and come from all of 0 to 255.
func text(n int) string {
	b := make([]byte, n)
	x := uint32(n) + 1
	for i := range b {
		x = x*1664525 + 1013904223
		b[i] = byte(x >> 24)
	}
	return string(b)
}

// want is a text's tag, as another program tells it.
func want(key, s string) string {
	h := hmac.New(sha256.New, []byte(key))
	h.Write([]byte(s))
	return string(h.Sum(nil))
}

// isTag says whether that is a text's tag.
func isTag(t *testing.T, key, s string) {
	t.Helper()
	if got, e := tag.Of(key, s); got != want(key, s) || e != api.OK {
		t.Errorf("key of %d bytes, text of %d: %x %v, not %x", len(key), len(s), got, e, want(key, s))
	}
}

// sameTag says whether a text has one tag under two keys.
func sameTag(t *testing.T, a, b, s string) bool {
	t.Helper()
	x, e := tag.Of(a, s)
	y, f := tag.Of(b, s)
	if e != api.OK || f != api.OK || len(x) != 32 || len(y) != 32 {
		t.Fatal(len(a), e, len(b), f)
	}
	return x == y
}

func sum(t *testing.T, s string) string {
	t.Helper()
	out, e := digest.Sum(s)
	if e != api.OK {
		t.Fatal(len(s), e)
	}
	return out
}

// isNoDigits says whether that is refused.
func isNoDigits(t *testing.T, s string) {
	t.Helper()
	if u, e := tag.Unhex(s); u != "" || e != api.ErrHex {
		t.Errorf("%q: %q %v", s, u, e)
	}
}

func TestErrorNumbers(t *testing.T) {
	if api.ErrLong != 20 || api.ErrHex != 30 || api.MaxText != mostKey {
		t.Error(api.ErrLong, api.ErrHex, api.MaxText)
	}
}

// P3.1

// TestOfKnown are those that RFC 4231 lists, and that of nothing under nothing.
func TestOfKnown(t *testing.T) {
	counted, e := hex.DecodeString("0102030405060708090a0b0c0d0e0f10111213141516171819")
	if e != nil {
		t.Fatal(e)
	}
	for _, x := range [][3]string{
		{"", "", "b613679a0814d9ec772f95d778c35fc5ff1697c493715653c6c712144292c5ad"},
		{"Jefe", "what do ya want for nothing?", "5bdcc146bf60754e6a042426089575c75a003f089d2739839dec58b964ec3843"},
		{strings.Repeat("\x0b", 20), "Hi There", "b0344c61d8db38535ca8afceaf0bf12b881dc200c9833da726e9376c2e32cff7"},
		{strings.Repeat("\xaa", 20), strings.Repeat("\xdd", 50), "773ea91e36800e46854db8ebd09181a72959098b3ef8c122d9635514ced565fe"},
		{string(counted), strings.Repeat("\xcd", 50), "82558a389a443c0ea4cc819899f2083a85f0faa3e578f8077a2e3ff46729665b"},
		{strings.Repeat("\xaa", 131), "Test Using Larger Than Block-Size Key - Hash Key First", "60e431591ee0b67f0d8a26aacbf5b77f8e0bc6213728c5140546040f0ee37f54"},
		{strings.Repeat("\xaa", 131), "This is a test using a larger than block-size key and a larger than block-size data. The key needs to be hashed before being used by the HMAC algorithm.", "9b09ffa71b942fcb27635fbcd5b0e944bfdc63644f0713938a7f51535c3a35e2"},
	} {
		if got, e := tag.Of(x[0], x[1]); hex.EncodeToString([]byte(got)) != x[2] || e != api.OK {
			t.Errorf("%q, %q: %x %v", x[0], x[1], got, e)
		}
	}
}

func TestOfKeysOfAllLengths(t *testing.T) {
	for n := range 200 {
		for _, key := range []string{text(n), strings.Repeat("\x00", n), strings.Repeat("\xff", n), strings.Repeat("\x36", n), strings.Repeat("\x5c", n)} {
			isTag(t, key, "")
			isTag(t, key, text(70))
		}
	}
	for _, n := range []int{255, 256, 320, 8192, 65535, 65536, 65600, mostKey - 1, mostKey} {
		isTag(t, text(n), "abc")
	}
}

func TestOfTextsOfAllLengths(t *testing.T) {
	lengths := slices.Clone(textEdges)
	for n := range 200 {
		lengths = append(lengths, n)
	}
	for _, n := range lengths {
		for _, key := range []string{"", "k", text(64), text(65)} {
			isTag(t, key, text(n))
			isTag(t, key, strings.Repeat("\x00", n))
		}
	}
	isTag(t, text(mostKey), text(mostText))
}

// TestOfByItsRule: the sum of B and of the sum of A and the text, by digest's sums alone.
func TestOfByItsRule(t *testing.T) {
	for _, n := range []int{0, 1, 31, 32, 33, 63, 64, 65, 66, 128, 1000, mostKey} {
		for _, m := range textEdges {
			key, s := text(n), text(m)
			if n > 64 {
				key = sum(t, key)
			}
			var a, b [64]byte
			copy(a[:], key)
			copy(b[:], key)
			for i := range 64 {
				a[i] ^= 0x36
				b[i] ^= 0x5c
			}
			by := sum(t, string(b[:])+sum(t, string(a[:])+s))
			if got, e := tag.Of(text(n), s); got != by || e != api.OK {
				t.Errorf("%d, %d: %x %v, not %x", n, m, got, e, by)
			}
		}
	}
}

func TestOfTooLong(t *testing.T) {
	for _, n := range []int{0, 64, 65, mostKey, mostKey + 1, mostKey + 64, 2 * mostKey, 1 << 20} {
		for _, m := range []int{0, mostText, mostText + 1, mostText + 63, mostText + 64, mostText + 65, 2 * mostKey, 1 << 20} {
			if n <= mostKey && m <= mostText {
				continue
			}
			if s, e := tag.Of(strings.Repeat("k", n), strings.Repeat("s", m)); s != "" || e != api.ErrLong {
				t.Errorf("%d, %d: %x %v", n, m, s, e)
			}
		}
	}
}

// TestOfKeepsNothing: what was tagged, or refused, ahead of it makes no difference.
func TestOfKeepsNothing(t *testing.T) {
	long := strings.Repeat("x", mostKey+1)
	for range 3 {
		isTag(t, "a", "abc")
		isTag(t, text(65), "abc")
		for _, x := range [][2]string{{long, "abc"}, {"a", long}, {long, long}} {
			if s, e := tag.Of(x[0], x[1]); s != "" || e != api.ErrLong {
				t.Errorf("%x %v", s, e)
			}
			isTag(t, "b", "")
		}
	}
}

// P3.2

func TestHexByItsRule(t *testing.T) {
	texts := []string{"", "\x00", "\x00\xff", "Ma", "\x1a", "\u00e9", "\ufffd", "\xff\xfe", "\xed\xa0\x80", "a\nb\x00"}
	for b := range 256 {
		texts = append(texts, string([]byte{byte(b)}), string([]byte{byte(b), 0x80}), string([]byte{0xc3, byte(b)}))
	}
	for _, n := range []int{1, 2, 63, 64, 1000, mostKey, mostKey + 1, 1 << 20} {
		texts = append(texts, text(n))
	}
	for _, s := range texts {
		d := hex.EncodeToString([]byte(s))
		if got := tag.Hex(s); got != d {
			t.Errorf("%.40q: %.80q", s, got)
		}
		if got, e := tag.Unhex(d); got != s || e != api.OK {
			t.Errorf("%.80q: %.40q %v", d, got, e)
		}
	}
}

func TestUnhexOfAllTwoBytes(t *testing.T) {
	const digits = "0123456789abcdef"
	for x := range 256 {
		isNoDigits(t, string([]byte{byte(x)}))
		for y := range 256 {
			s := string([]byte{byte(x), byte(y)})
			high, low := strings.IndexByte(digits, byte(x)), strings.IndexByte(digits, byte(y))
			if high < 0 || low < 0 {
				isNoDigits(t, s)
				isNoDigits(t, "00"+s)
				isNoDigits(t, s+"00")
				continue
			}
			if got, e := tag.Unhex(s); got != string([]byte{byte(high<<4 | low)}) || e != api.OK {
				t.Errorf("%q: %q %v", s, got, e)
			}
		}
	}
}

// TestUnhexOfOneWrong: wherever one stands that is no digit, or one too much, or one is gone.
func TestUnhexOfOneWrong(t *testing.T) {
	// The later ones are digits to whoever looks at a part of the rune, or asks whether it is a digit anywhere.
	wrong := []string{"A", "F", "g", "`", "/", ":", "@", "G", " ", "\n", "\x00", "\x7f", "x", "-", "+", "_",
		"\u00e9", "\u0130", "\u0161", "\u0661", "\uff11", "\uff41", "\U00010030", "\ufffd", "\x80", "\xb0", "\xff", "\xc3", "\xe2\x82", "\xed\xa0\x80"}
	right := tag.Hex(text(32))
	for at := range len(right) + 1 {
		for _, w := range wrong {
			isNoDigits(t, right[:at]+w+right[at:])
			isNoDigits(t, right[:at]+w+w+right[at:])
			if at < len(right) {
				isNoDigits(t, right[:at]+w+right[at+1:])
			}
		}
		isNoDigits(t, right[:at]+"0"+right[at:])
		if at < len(right) {
			isNoDigits(t, right[:at]+right[at+1:])
		}
	}
	for _, s := range []string{"0x00", " 00", "00 ", "00\n", "0", "abc", "4D61", "4d6", "4d 61", "4d:61"} {
		isNoDigits(t, s)
	}
	long := tag.Hex(text(mostKey))
	isNoDigits(t, long+"0")
	isNoDigits(t, long+"0g")
	isNoDigits(t, "g"+long[1:])
}

func TestEqualOfAllShort(t *testing.T) {
	texts := []string{""}
	for _, a := range []string{"\x00", "\x01", "\x80", "\xff", "a", "A"} {
		texts = append(texts, a)
		for _, b := range []string{"\x00", "\x01", "\x80", "\xff", "a", "A"} {
			texts = append(texts, a+b)
		}
	}
	for i, a := range texts {
		for j, b := range texts {
			if tag.Equal(a, b) != (i == j) {
				t.Errorf("%q, %q", a, b)
			}
		}
	}
}

// TestEqualOfOneByte: wherever they differ, in whichever bit, and however much longer one is by noughts.
func TestEqualOfOneByte(t *testing.T) {
	for _, n := range []int{1, 31, 32, 64, 300} {
		a := text(n)
		if !tag.Equal(a, strings.Clone(a)) {
			t.Error(n)
		}
		for at := range n {
			for bit := range 8 {
				b := []byte(a)
				b[at] ^= 1 << bit
				if tag.Equal(a, string(b)) || tag.Equal(string(b), a) {
					t.Errorf("%d: byte %d, bit %d", n, at, bit)
				}
			}
		}
		// Two bytes that differ alike do not make up for each other.
		if b := []byte(a); n > 1 {
			b[0], b[n-1] = b[0]^1, b[n-1]^1
			if tag.Equal(a, string(b)) {
				t.Errorf("%d: two bytes", n)
			}
		}
	}
	for _, n := range []int{1, 2, 255, 256, 512, 65535, 65536, 1 << 20} {
		for _, a := range []string{"", "a", text(256)} {
			b := a + strings.Repeat("\x00", n)
			if tag.Equal(a, b) || tag.Equal(b, a) || !tag.Equal(b, strings.Clone(b)) {
				t.Errorf("%d bytes, and %d noughts", len(a), n)
			}
		}
	}
}

// TestEqualLooksAtAllBytes: who leaves at the first byte that differs needs less than a thousandth of the time.
func TestEqualLooksAtAllBytes(t *testing.T) {
	const n = 1 << 20
	same := strings.Repeat("a", n)
	others := map[string]string{
		"same":         strings.Clone(same),
		"first differ": "b" + same[1:],
		"last differ":  same[1:] + "b",
		"shorter":      same[1:],
		"longer":       same + "a",
		"none alike":   strings.Repeat("b", n),
		"nothing":      "",
	}
	// The least of many goes is what it takes when nothing else is in the way.
	least := map[string]time.Duration{}
	for range 25 {
		for name, other := range others {
			start := time.Now()
			if tag.Equal(same, other) != (name == "same") {
				t.Fatal(name)
			}
			took := time.Since(start)
			if before, ok := least[name]; !ok || took < before {
				least[name] = took
			}
		}
	}
	for name, took := range least {
		if took < least["same"]/20 {
			t.Errorf("%s: %v, and of the same ones %v", name, took, least["same"])
		}
	}
}

// P3.3

func TestDigitsAndTextsTellEachOther(t *testing.T) {
	seen := map[string]bool{}
	for _, n := range []int{0, 1, 2, 3, 31, 32, 33, 64, 1000, mostKey + 1} {
		s := text(n)
		d := tag.Hex(s)
		if len(d) != 2*n || strings.Trim(d, "0123456789abcdef") != "" || seen[d] {
			t.Errorf("%d: %.80q", n, d)
		}
		seen[d] = true
		back, e := tag.Unhex(d)
		if back != s || e != api.OK || tag.Hex(back) != d {
			t.Errorf("%d: %.40q %v", n, back, e)
		}
	}
}

func TestLongKeysTagAsTheirSums(t *testing.T) {
	for _, n := range []int{65, 66, 100, 127, 128, 129, 4096, mostKey - 1, mostKey} {
		for _, s := range []string{"", "abc", text(200)} {
			if key := text(n); !sameTag(t, key, sum(t, key), s) {
				t.Errorf("%d bytes", n)
			}
		}
	}
	// One of just 64 is itself.
	if key := text(64); sameTag(t, key, sum(t, key), "abc") {
		t.Error("64 bytes")
	}
}

func TestShortKeysTagAsWithNoughtsBehindThem(t *testing.T) {
	for n := range 65 {
		key := text(n)
		for more := range 65 - n {
			if !sameTag(t, key, key+strings.Repeat("\x00", more), "abc") {
				t.Errorf("%d bytes, and %d noughts", n, more)
			}
		}
		if full := key + strings.Repeat("\x00", 64-n); sameTag(t, full, full+"\x00", "abc") {
			t.Errorf("%d bytes, and more noughts than there is room for", n)
		}
		if n > 0 && n < 64 && sameTag(t, key, "\x00"+key, "abc") {
			t.Errorf("%d bytes, and a nought ahead", n)
		}
	}
}

func TestUnlikeKeysAndTextsHaveUnlikeTags(t *testing.T) {
	seen := map[string][2]string{}
	for _, key := range []string{"", "a", "ab", "b", "\x36", "\x5c", text(32), text(64), text(65)} {
		for _, s := range []string{"", "a", "ab", "b", "\x00", text(63), text(64), text(65)} {
			x, e := tag.Of(key, s)
			if e != api.OK || len(x) != 32 {
				t.Fatal(len(key), len(s), e)
			}
			if other, ok := seen[x]; ok {
				t.Errorf("%q and %q", other, [2]string{key, s})
			}
			seen[x] = [2]string{key, s}
			for y := range seen {
				if tag.Equal(x, y) != (x == y) {
					t.Errorf("%x, %x", x, y)
				}
			}
		}
	}
}

// TestAllEnds: at lengths and bytes that are right for nothing (R1).
func TestAllEnds(t *testing.T) {
	for _, s := range []string{"\x00", "\xff", strings.Repeat("\xff", math.MaxUint16), strings.Repeat("\u00e9", 1<<20)} {
		isNoDigits(t, s)
		if len(tag.Hex(s)) != 2*len(s) || tag.Equal(s, "") || !tag.Equal(s, s) {
			t.Error(len(s))
		}
		if _, e := tag.Of(s, s); (e == api.OK) != (len(s) <= mostText) {
			t.Error(len(s), e)
		}
	}
}
