package rounds

import (
	"iter"
	"math/bits"
)

const (
	blockSize  = 64 // bytes
	blockWords = blockSize / 4
	roundCount = 64
)

// schedule are the words of a block, one for each round.
type schedule [roundCount]uint32

func scheduleOf(block string) schedule {
	var l schedule
fill:
	for t, w := range words(block) {
		if t == len(l) {
			break fill
		}
		l[t] = w
	}
	return l
}

// words goes through a block's own words, and then through those that are made of the ones ahead, without an end:
// whoever goes through them leaves where they are enough.
func words(block string) iter.Seq2[int, uint32] {
	return func(yield func(int, uint32) bool) {
		// A word hangs on none that is more than 16 ahead of it, so that its place is that of the one it replaces.
		var last [blockWords]uint32
		for t := 0; ; t++ {
			at := t % blockWords
			if t < blockWords {
				last[at] = wordAt(block, 4*t)
			} else {
				last[at] += small0(last[(t-15)%blockWords]) + last[(t-7)%blockWords] + small1(last[(t-2)%blockWords])
			}
			if !yield(t, last[at]) {
				return
			}
		}
	}
}

func wordAt(s string, at int) uint32 {
	return uint32(s[at])<<24 | uint32(s[at+1])<<16 | uint32(s[at+2])<<8 | uint32(s[at+3])
}

func small0(x uint32) uint32 { return turned(x, 7, 18) ^ x>>3 }

func small1(x uint32) uint32 { return turned(x, 17, 19) ^ x>>10 }

// turned is x, turned down by each of some numbers of places, and these held together by xor.
func turned(x uint32, places ...int) uint32 {
	var out uint32
	for _, n := range places {
		out ^= bits.RotateLeft32(x, -n)
	}
	return out
}
