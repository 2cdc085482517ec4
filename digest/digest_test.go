package digest_test

import (
	"crypto/sha256"
	"encoding/binary"
	"encoding/hex"
	"math"
	"slices"
	"strings"
	"testing"

	"sigillary/api"
	"sigillary/digest"
	"sigillary/rounds"
)

const (
	most    = 100000 // bytes that a message has
	tooMany = most + 1
)

// edges are lengths next to those at which an end, or a block, grows, and the greatest ones.
var edges = []int{0, 1, 2, 54, 55, 56, 57, 62, 63, 64, 65, 118, 119, 120, 121, 127, 128, 129, 183, 184, 191, 192, 193, 8191, 8192, 65535, 65536, 99999, most}

// text has n bytes, which look like chance and come from all of 0 to 255.
func text(n int) string {
	b := make([]byte, n)
	x := uint32(n) + 1
	for i := range b {
		x = x*1664525 + 1013904223
		b[i] = byte(x >> 24)
	}
	return string(b)
}

// want is a message's sum, as another program tells it.
func want(s string) string {
	sum := sha256.Sum256([]byte(s))
	return string(sum[:])
}

// written is a hasher of these pieces.
func written(t *testing.T, pieces ...string) *digest.Hasher {
	t.Helper()
	h := digest.New()
	n := 0
	for _, p := range pieces {
		n += len(p)
		if e := h.Write(p); e != api.OK || h.Len() != n {
			t.Fatal(len(p), e, h.Len(), n)
		}
	}
	return h
}

// holds says whether a hasher has just that.
func holds(t *testing.T, h *digest.Hasher, s string) {
	t.Helper()
	if got := h.Sum(); got != want(s) || h.Len() != len(s) {
		t.Errorf("%d bytes: %x of %d, not %x", len(s), got, h.Len(), want(s))
	}
}

// end is a message's end.
func end(t *testing.T, n int) string {
	t.Helper()
	s, e := digest.End(n)
	if e != api.OK {
		t.Fatal(n, e)
	}
	return s
}

func TestErrorNumbers(t *testing.T) {
	if api.ErrNil != 1 || api.ErrLong != 20 || api.MaxText != most {
		t.Error(api.ErrNil, api.ErrLong, api.MaxText)
	}
}

// P2.1

func TestEndByItsRule(t *testing.T) {
	lengths := slices.Clone(edges)
	for n := range 300 {
		lengths = append(lengths, n, most-n)
	}
	for _, n := range lengths {
		// The fewest noughts are found by trying.
		e := "\x80"
		for (n+len(e)+8)%64 != 0 {
			e += "\x00"
		}
		e = string(binary.BigEndian.AppendUint64([]byte(e), uint64(8*n)))
		if got := end(t, n); got != e {
			t.Errorf("%d: %x, not %x", n, got, e)
		}
	}
}

func TestEndAtEdges(t *testing.T) {
	for n, e := range map[int]string{
		0:    "\x80" + strings.Repeat("\x00", 63),
		3:    "\x80" + strings.Repeat("\x00", 59) + "\x18",
		55:   "\x80\x00\x00\x00\x00\x00\x00\x01\xb8",
		56:   "\x80" + strings.Repeat("\x00", 69) + "\x01\xc0",
		64:   "\x80" + strings.Repeat("\x00", 61) + "\x02\x00",
		most: "\x80" + strings.Repeat("\x00", 28) + "\x0c\x35\x00",
	} {
		if got := end(t, n); got != e {
			t.Errorf("%d: %x, not %x", n, got, e)
		}
	}
}

func TestEndOfNoMessage(t *testing.T) {
	for _, n := range []int{-1, -9, -64, tooMany, most + 64, 1 << 32, 1<<32 + 3, 1 << 61, 1 << 62, math.MaxInt, math.MinInt, math.MinInt + 3} {
		if s, e := digest.End(n); s != "" || e != api.ErrLong {
			t.Errorf("%d: %x %v", n, s, e)
		}
	}
}

func TestSumKnown(t *testing.T) {
	for s, sum := range map[string]string{
		"":    "e3b0c44298fc1c149afbf4c8996fb92427ae41e4649b934ca495991b7852b855",
		"abc": "ba7816bf8f01cfea414140de5dae2223b00361a396177a9cb410ff61f20015ad",
		"abcdbcdecdefdefgefghfghighijhijkijkljklmklmnlmnomnopnopq":                                                         "248d6a61d20638b8e5c026930c3e6039a33ce45964ff2167f6ecedd419db06c1",
		"abcdefghbcdefghicdefghijdefghijkefghijklfghijklmghijklmnhijklmnoijklmnopjklmnopqklmnopqrlmnopqrsmnopqrstnopqrstu": "cf5b16a778af8380036ce59e7b0492370b249b11e8f07a51afac45037afee9d1",
	} {
		if got, e := digest.Sum(s); hex.EncodeToString([]byte(got)) != sum || e != api.OK {
			t.Errorf("%q: %x %v", s, got, e)
		}
	}
}

func TestSumOfAllLengths(t *testing.T) {
	lengths := slices.Clone(edges)
	for n := range 300 {
		lengths = append(lengths, n)
	}
	for _, n := range lengths {
		for _, s := range []string{text(n), strings.Repeat("\x00", n), strings.Repeat("\xff", n), strings.Repeat("\x80", n)} {
			if got, e := digest.Sum(s); got != want(s) || e != api.OK {
				t.Errorf("%d bytes: %x %v, not %x", n, got, e, want(s))
			}
		}
	}
}

// TestSumIsItsBlocks: of the first state, what a message and its end make, block by block.
func TestSumIsItsBlocks(t *testing.T) {
	for _, n := range edges {
		m := text(n)
		s, e := rounds.First(), api.OK
		for p := m + end(t, n); p != "" && e == api.OK; p = p[64:] {
			s, e = rounds.Compress(s, p[:64])
		}
		b, f := rounds.Bytes(s)
		if got, g := digest.Sum(m); got != b || e != api.OK || f != api.OK || g != api.OK {
			t.Errorf("%d bytes: %x, not %x (%v %v %v)", n, got, b, e, f, g)
		}
	}
}

func TestSumOfNoMessage(t *testing.T) {
	for _, n := range []int{tooMany, most + 63, most + 64, 2 * most, 1 << 20} {
		if s, e := digest.Sum(strings.Repeat("a", n)); s != "" || e != api.ErrLong {
			t.Errorf("%d: %x %v", n, s, e)
		}
	}
}

// P2.2

func TestNewIsOfNothing(t *testing.T) {
	h := digest.New()
	if h == nil {
		t.Fatal("no hasher")
	}
	holds(t, h, "")
	holds(t, written(t, ""), "")
	holds(t, written(t, "", "", "a", ""), "a")
}

// TestSumLeavesAllAsItIs: at each length, and whatever is written behind it.
func TestSumLeavesAllAsItIs(t *testing.T) {
	s := text(400)
	for _, step := range []int{1, 7, 63, 64, 65, 130} {
		h := digest.New()
		holds(t, h, "")
		for at := 0; at < len(s); at += step {
			to := min(at+step, len(s))
			if e := h.Write(s[at:to]); e != api.OK {
				t.Fatal(e)
			}
			holds(t, h, s[:to])
			holds(t, h, s[:to])
		}
	}
}

func TestWriteTooMuch(t *testing.T) {
	for _, n := range []int{0, 1, 63, 64, 100, most - 64, most - 1, most} {
		s := text(n)
		h := written(t, s)
		for _, more := range []int{most - n + 1, most - n + 64, tooMany, 2 * most} {
			if e := h.Write(strings.Repeat("b", more)); e != api.ErrLong {
				t.Error(n, more, e)
			}
			holds(t, h, s)
		}
		// What was refused has left nothing: just so much as a message has room for goes behind.
		rest := text(most - n)
		if e := h.Write(rest); e != api.OK {
			t.Error(n, e)
		}
		holds(t, h, s+rest)
		if e := h.Write(""); e != api.OK {
			t.Error(n, e)
		}
		if e := h.Write("b"); e != api.ErrLong {
			t.Error(n, e)
		}
		holds(t, h, s+rest)
	}
}

func TestReset(t *testing.T) {
	h := digest.New()
	h.Reset()
	holds(t, h, "")
	for _, n := range []int{1, 55, 63, 64, 65, 200, most} {
		if e := h.Write(text(n)); e != api.OK {
			t.Error(n, e)
		}
		if n%2 == 0 {
			h.Sum()
		}
		h.Reset()
		holds(t, h, "")
		if e := h.Write("abc"); e != api.OK {
			t.Error(n, e)
		}
		holds(t, h, "abc")
		h.Reset()
		h.Reset()
		holds(t, h, "")
	}
	if e := h.Write(strings.Repeat("a", tooMany)); e != api.ErrLong {
		t.Error(e)
	}
	h.Reset()
	holds(t, h, "")
}

func TestNil(t *testing.T) {
	var h *digest.Hasher
	for _, s := range []string{"", "a", strings.Repeat("a", tooMany)} {
		if e := h.Write(s); e != api.ErrNil {
			t.Error(len(s), e)
		}
		h.Reset()
		if n, sum := h.Len(), h.Sum(); n != 0 || sum != "" {
			t.Errorf("%d %x", n, sum)
		}
	}
}

// TestOneHasherKnowsNothingOfAnother: their calls stand between each other's, and sums beside them.
func TestOneHasherKnowsNothingOfAnother(t *testing.T) {
	a, b := digest.New(), digest.New()
	s := text(300)
	for i := range len(s) {
		if e, f := a.Write(s[i:i+1]), b.Write(s[:i]); e != api.OK || f != api.OK {
			t.Fatal(e, f)
		}
		holds(t, a, s[:i+1])
		if sum, e := digest.Sum(s[i:]); sum != want(s[i:]) || e != api.OK {
			t.Errorf("%d: %x %v", i, sum, e)
		}
		holds(t, b, s[:i])
		b.Reset()
	}
}

// P2.3

func TestTwoPieces(t *testing.T) {
	s := text(200)
	for n := range len(s) + 1 {
		for at := range n + 1 {
			holds(t, written(t, s[:at], s[at:n]), s[:n])
		}
	}
}

func TestPiecesOfAllSizes(t *testing.T) {
	for _, n := range []int{0, 1, 64, 1000, 4096, most} {
		s := text(n)
		for _, size := range []int{1, 3, 31, 32, 33, 63, 64, 65, 127, 128, 129, 1000, most} {
			var pieces []string
			for at := 0; at < n; at += size {
				pieces = append(pieces, s[at:min(at+size, n)])
			}
			holds(t, written(t, pieces...), s)
		}
	}
}

func TestPiecesOfUnlikeSizes(t *testing.T) {
	x := uint32(1)
	for range 200 {
		s := text(2000)
		h := digest.New()
		for at := 0; at < len(s); {
			x = x*1664525 + 1013904223
			to := min(at+int(x>>24), len(s))
			if e := h.Write(s[at:to]); e != api.OK {
				t.Fatal(e)
			}
			if x>>23&1 == 1 {
				holds(t, h, s[:to])
			}
			at = to
		}
		holds(t, h, s)
	}
}

// TestNoMessageEndsAnother: that look like each other most: the later ones end with the bytes, and even with the ends, of others.
func TestNoMessageEndsAnother(t *testing.T) {
	var messages []string
	for _, n := range []int{0, 1, 3, 55, 56, 63, 64, 65, 120, 128} {
		messages = append(messages, text(n), strings.Repeat("\x00", n), strings.Repeat("\x80", n))
	}
	for _, m := range messages[:len(messages):len(messages)] {
		messages = append(messages, m+end(t, len(m)), "a"+m, strings.Repeat("a", 64)+m, m+"\x80")
	}
	for _, a := range messages {
		for _, b := range messages {
			if a != b && strings.HasSuffix(b+end(t, len(b)), a+end(t, len(a))) {
				t.Errorf("%x with its end is the end of %x with its", a, b)
			}
		}
	}
}
