package digest

import (
	"iter"

	"sigillary/api"
	"sigillary/rounds"
)

const (
	blockSize = 64 // bytes
	countSize = 8  // bytes of an end that tell how long the message is
)

// buffer keeps of what was added the state of its full blocks, and the bytes behind them.
// Its zero value is one of nothing.
type buffer struct {
	state api.State
	room  [blockSize]byte // begins with the rest, noughts behind it
	count int             // bytes that were added in all
}

// rest are the bytes that fill no block yet. Their spare room is cut off, so that what is put behind them
// is not written over room.
func (b *buffer) rest() []byte {
	n := b.count % blockSize
	return b.room[:n:n]
}

// keep makes a piece the rest, and nothing of an earlier one stays behind it.
func (b *buffer) keep(piece string) {
	n := copy(b.room[:], piece)
	clear(b.room[n:])
}

func (b *buffer) putBack(before buffer) { *b = before }

// add puts pieces behind what there is.
func (b *buffer) add(pieces ...string) error {
	if b.count == 0 {
		b.state = rounds.First()
	}
next:
	for _, piece := range pieces {
		bytes := append(b.rest(), piece...)
		b.count += len(piece)
		for block := range cuts(bytes) {
			if len(block) < blockSize {
				b.keep(block)
				continue next
			}
			s, e := rounds.Compress(b.state, block)
			if e != api.OK {
				return &fault{e, errRounds}
			}
			b.state = s
		}
	}
	return nil
}

// sum is that of what there is and of more behind it. What it adds, the end too, stays added.
func (b *buffer) sum(more ...string) (string, error) {
	if err := b.add(more...); err != nil {
		return "", err
	}
	if err := b.add(endOf(b.count)); err != nil {
		return "", err
	}
	sum, e := rounds.Bytes(b.state)
	if e != api.OK {
		return "", &fault{e, errRounds}
	}
	return sum, nil
}

// cuts goes through blocks, and at last through what fills none, even if that is nothing.
func cuts(bytes []byte) iter.Seq[string] {
	return func(yield func(string) bool) {
		for len(bytes) >= blockSize {
			if !yield(string(bytes[:blockSize])) {
				return
			}
			bytes = bytes[blockSize:]
		}
		yield(string(bytes))
	}
}

// endOf is the end of a message of n bytes, which must be one.
func endOf(n int) string {
	over := (n + 1 + countSize) % blockSize
	end := make([]byte, 1, 1+blockSize+countSize)
	end[0] = 0x80
	if over > 0 {
		end = append(end, make([]byte, blockSize-over)...)
	}
	for at := 8 * (countSize - 1); at >= 0; at -= 8 {
		end = append(end, byte(8*n>>at))
	}
	return string(end)
}
