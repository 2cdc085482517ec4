package rounds_test

import (
	"crypto/sha256"
	"encoding/binary"
	"math/big"
	"math/bits"
	"slices"
	"strings"
	"testing"

	"sigillary/api"
	"sigillary/rounds"
)

var abcBlock = "abc\x80" + strings.Repeat("\x00", 59) + "\x18"

// noWords are next to words, and far from them; their lower 32 bits are words all the same.
var noWords = []int{-1, -4294967296, 4294967296, 1 << 33, 1<<62 + 1, 1<<63 - 1, -1 << 63}

var noBlocks = []string{"", "a", strings.Repeat("a", 63), strings.Repeat("a", 65), strings.Repeat("a", 128), strings.Repeat("\u00e9", 64)}

// primes are the first n.
func primes(n int) []int64 {
	var out []int64
	for p := int64(2); len(out) < n; p++ {
		if big.NewInt(p).ProbablyPrime(10) {
			out = append(out, p)
		}
	}
	return out
}

// rootBits are the first 32 bits behind the point of the k-th root of p.
func rootBits(p int64, k int) int {
	x := new(big.Int).Lsh(big.NewInt(p), uint(32*k))
	low, high := big.NewInt(0), new(big.Int).Lsh(big.NewInt(p), 32)
	for {
		mid := new(big.Int).Add(low, high)
		mid.Add(mid, big.NewInt(1)).Rsh(mid, 1)
		if low.Cmp(high) == 0 {
			return int(low.Uint64() & api.MaxWord)
		}
		if new(big.Int).Exp(mid, big.NewInt(int64(k)), nil).Cmp(x) <= 0 {
			low = mid
		} else {
			high = mid.Sub(mid, big.NewInt(1))
		}
	}
}

// someBlocks are the edges, and some whose bytes look like chance.
func someBlocks() []string {
	out := []string{abcBlock, strings.Repeat("\x00", 64), strings.Repeat("\xff", 64), strings.Repeat("\u00e9", 32)}
	x := uint32(1)
	for range 20 {
		b := make([]byte, 64)
		for i := range b {
			x = x*1664525 + 1013904223
			b[i] = byte(x >> 24)
		}
		out = append(out, string(b))
	}
	return out
}

// someStates are the edges, and those that blocks make.
func someStates(t *testing.T) []api.State {
	t.Helper()
	const top = api.MaxWord
	out := []api.State{rounds.First(), {}, {top, top, top, top, top, top, top, top}, {0, 1, 2, 3, 4, 5, 6, top}}
	for _, b := range someBlocks() {
		s, e := rounds.Compress(out[len(out)-1], b)
		if e != api.OK {
			t.Fatal(e)
		}
		out = append(out, s)
	}
	return out
}

// plus is the sum of two states, word by word.
func plus(a, b api.State) api.State {
	for i := range a {
		a[i] = (a[i] + b[i]) % (api.MaxWord + 1)
	}
	return a
}

// padded is a message with its end, for a sum by hand.
func padded(m string) string {
	n := len(m)
	m += "\x80"
	for len(m)%64 != 56 {
		m += "\x00"
	}
	return string(binary.BigEndian.AppendUint64([]byte(m), uint64(8*n)))
}

func TestErrorNumbers(t *testing.T) {
	if api.ErrBlock != 10 || api.ErrWord != 11 {
		t.Error(api.ErrBlock, api.ErrWord)
	}
}

// P1.1

func TestFirstAreSquareRoots(t *testing.T) {
	s := rounds.First()
	for i, p := range primes(8) {
		if s[i] != rootBits(p, 2) {
			t.Errorf("word %d: %x", i, s[i])
		}
	}
	s[0] = 0
	if rounds.First()[0] != 0x6a09e667 {
		t.Error("a change of an answer is seen in the next one")
	}
}

func TestScheduleOfAbc(t *testing.T) {
	w, e := rounds.Schedule(abcBlock)
	if e != api.OK || len(w) != 64 {
		t.Fatal(len(w), e)
	}
	for i, want := range map[int]int{0: 0x61626380, 1: 0, 14: 0, 15: 0x18, 16: 0x61626380, 17: 0x000f0000, 18: 0x7da86405, 63: 0x12b1edeb} {
		if w[i] != want {
			t.Errorf("word %d: %x", i, w[i])
		}
	}
}

func TestScheduleByItsRule(t *testing.T) {
	rot := func(x uint32, n int) uint32 { return bits.RotateLeft32(x, 32-n) }
	for _, b := range someBlocks() {
		w, e := rounds.Schedule(b)
		if e != api.OK || len(w) != 64 {
			t.Fatal(len(w), e)
		}
		for i := range w {
			var want uint32
			if i < 16 {
				want = binary.BigEndian.Uint32([]byte(b)[4*i:])
			} else {
				x, y := uint32(w[i-15]), uint32(w[i-2])
				want = uint32(w[i-16]) + (rot(x, 7) ^ rot(x, 18) ^ x>>3) + uint32(w[i-7]) + (rot(y, 17) ^ rot(y, 19) ^ y>>10)
			}
			if w[i] != int(want) {
				t.Errorf("%x: word %d: %x, not %x", b, i, w[i], want)
			}
		}
	}
}

func TestScheduleOfNoBlock(t *testing.T) {
	for _, b := range noBlocks {
		if w, e := rounds.Schedule(b); len(w) != 0 || e != api.ErrBlock {
			t.Error(len(b), w, e)
		}
	}
}

func TestScheduleIsNewEachTime(t *testing.T) {
	a, e := rounds.Schedule(abcBlock)
	if e != api.OK {
		t.Fatal(e)
	}
	want := slices.Clone(a)
	for i := range a {
		a[i] = -1
	}
	_ = append(a[:0:cap(a)], make([]int, cap(a))...)
	if b, _ := rounds.Schedule(abcBlock); !slices.Equal(b, want) {
		t.Error("a change of an answer is seen in the next one")
	}
}

// P1.2

// TestConstantsAreCubeRoots: of a state of noughts, t1 is the round's constant alone, and stands in the fifth word.
func TestConstantsAreCubeRoots(t *testing.T) {
	for i, p := range primes(64) {
		k := rootBits(p, 3)
		for _, w := range []int{0, 1, api.MaxWord} {
			sum := (k + w) % (api.MaxWord + 1)
			if s, e := rounds.Round(api.State{}, i, w); s != (api.State{sum, 0, 0, 0, sum, 0, 0, 0}) || e != api.OK {
				t.Errorf("round %d: %x %v", i, s, e)
			}
		}
	}
}

func TestRoundOfAbc(t *testing.T) {
	s := rounds.First()
	w, e := rounds.Schedule(abcBlock)
	if e != api.OK {
		t.Fatal(e)
	}
	for i, want := range []api.State{
		{0x5d6aebcd, 0x6a09e667, 0xbb67ae85, 0x3c6ef372, 0xfa2a4622, 0x510e527f, 0x9b05688c, 0x1f83d9ab},
		{0x5a6ad9ad, 0x5d6aebcd, 0x6a09e667, 0xbb67ae85, 0x78ce7989, 0xfa2a4622, 0x510e527f, 0x9b05688c},
	} {
		if s, e = rounds.Round(s, i, w[i]); s != want || e != api.OK {
			t.Errorf("round %d: %x %v", i, s, e)
		}
	}
}

func TestRoundByItsRule(t *testing.T) {
	rot := func(x uint32, n int) uint32 { return bits.RotateLeft32(x, 32-n) }
	for _, s := range someStates(t) {
		for i, p := range primes(64) {
			const word = 0x80000001
			a, b, c, d, e, f, g, h := uint32(s[0]), uint32(s[1]), uint32(s[2]), s[3], uint32(s[4]), uint32(s[5]), uint32(s[6]), uint32(s[7])
			t1 := h + (rot(e, 6) ^ rot(e, 11) ^ rot(e, 25)) + (e&f ^ ^e&g) + uint32(rootBits(p, 3)) + word
			t2 := (rot(a, 2) ^ rot(a, 13) ^ rot(a, 22)) + (a&b ^ a&c ^ b&c)
			want := api.State{int(t1 + t2), s[0], s[1], s[2], int(uint32(d) + t1), s[4], s[5], s[6]}
			if got, err := rounds.Round(s, i, word); got != want || err != api.OK {
				t.Errorf("round %d of %x: %x %v, not %x", i, s, got, err, want)
			}
		}
	}
}

func TestRoundOfNoWords(t *testing.T) {
	for _, i := range append(noWords, 64, 65, -64, 128) {
		if s, e := rounds.Round(rounds.First(), i, 0); s != (api.State{}) || e != api.ErrWord {
			t.Error("round", i, s, e)
		}
	}
	for _, w := range noWords {
		if s, e := rounds.Round(rounds.First(), 0, w); s != (api.State{}) || e != api.ErrWord {
			t.Error("word", w, s, e)
		}
	}
}

func TestStateOfNoWords(t *testing.T) {
	for i := range 8 {
		for _, x := range noWords {
			s := rounds.First()
			s[i] = x
			if r, e := rounds.Round(s, 0, 0); r != (api.State{}) || e != api.ErrWord {
				t.Error("Round", i, x, r, e)
			}
			// Both are wrong in the second one: the state is what is told.
			for _, b := range []string{abcBlock, ""} {
				if r, e := rounds.Compress(s, b); r != (api.State{}) || e != api.ErrWord {
					t.Error("Compress", i, x, len(b), r, e)
				}
			}
			if b, e := rounds.Bytes(s); b != "" || e != api.ErrWord {
				t.Error("Bytes", i, x, b, e)
			}
		}
	}
}

func TestCompressOfNoBlock(t *testing.T) {
	for _, b := range noBlocks {
		if s, e := rounds.Compress(rounds.First(), b); s != (api.State{}) || e != api.ErrBlock {
			t.Error(len(b), s, e)
		}
	}
}

func TestCompressOfAbc(t *testing.T) {
	want := api.State{0xba7816bf, 0x8f01cfea, 0x414140de, 0x5dae2223, 0xb00361a3, 0x96177a9c, 0xb410ff61, 0xf20015ad}
	if s, e := rounds.Compress(rounds.First(), abcBlock); s != want || e != api.OK {
		t.Errorf("%x %v", s, e)
	}
}

// TestCompressGivesSums: block by block, up to a sum that another program tells.
func TestCompressGivesSums(t *testing.T) {
	for _, m := range append(someBlocks(), "", "abc", strings.Join(someBlocks(), "-")) {
		s, e := rounds.First(), api.OK
		for p := padded(m); p != "" && e == api.OK; p = p[64:] {
			s, e = rounds.Compress(s, p[:64])
		}
		b, f := rounds.Bytes(s)
		if want := sha256.Sum256([]byte(m)); b != string(want[:]) || e != api.OK || f != api.OK {
			t.Errorf("%x: %x %v %v", m, b, e, f)
		}
	}
}

func TestBytes(t *testing.T) {
	if b, e := rounds.Bytes(api.State{0x01020304, 0, 0, 0, 0, 0, 1, 0xfffefdfc}); b != "\x01\x02\x03\x04"+strings.Repeat("\x00", 23)+"\x01\xff\xfe\xfd\xfc" || e != api.OK {
		t.Errorf("%x %v", b, e)
	}
	for _, s := range someStates(t) {
		b, e := rounds.Bytes(s)
		if len(b) != 32 || e != api.OK {
			t.Fatal(len(b), e)
		}
		for i, w := range s {
			if int(binary.BigEndian.Uint32([]byte(b)[4*i:])) != w {
				t.Errorf("%x: %x", s, b)
			}
		}
	}
}

// P1.3

func TestCompressIsItsRounds(t *testing.T) {
	blocks := someBlocks()
	for n, s := range someStates(t) {
		block := blocks[n%len(blocks)]
		words, e := rounds.Schedule(block)
		if e != api.OK {
			t.Fatal(e)
		}
		r := s
		for i, w := range words {
			if r, e = rounds.Round(r, i, w); e != api.OK {
				t.Fatal(i, e)
			}
			for _, x := range r {
				if x < 0 || x > api.MaxWord {
					t.Errorf("round %d makes %d, which is no word", i, x)
				}
			}
		}
		if got, e := rounds.Compress(s, block); got != plus(s, r) || e != api.OK {
			t.Errorf("%x with %x: %x %v, not %x", s, block, got, e, plus(s, r))
		}
	}
}

// TestNothingIsKept: what a call answers does not hang on those ahead of it.
func TestNothingIsKept(t *testing.T) {
	before, e := rounds.Compress(rounds.First(), abcBlock)
	if e != api.OK {
		t.Fatal(e)
	}
	_, _ = rounds.Compress(api.State{-1}, abcBlock)
	_, _ = rounds.Compress(rounds.First(), "")
	_, _ = rounds.Round(api.State{}, 64, 0)
	_, _ = rounds.Schedule(strings.Repeat("\xff", 64))
	if s, e := rounds.Compress(rounds.First(), abcBlock); s != before || e != api.OK {
		t.Errorf("%x %v, not %x", s, e, before)
	}
}
