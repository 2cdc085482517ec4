// Package rounds is layer 1: the rounds of SHA-256 (see shared/doc/01-rounds.md). It keeps nothing.
package rounds

import (
	"errors"

	"sigillary/api"
)

// What may be wrong with what is handed in; number tells the api's number of each.
var (
	errBlock = errors.New("rounds: not 64 bytes")
	errWord  = errors.New("rounds: not a word, or not a round")
)

// First is the first state.
func First() api.State {
	return api.State{
		0x6a09e667, 0xbb67ae85, 0x3c6ef372, 0xa54ff53a,
		0x510e527f, 0x9b05688c, 0x1f83d9ab, 0x5be0cd19,
	}
}

// Schedule is a block's schedule.
func Schedule(block string) ([]int, api.Errno) {
	if err := checkBlock(block); err != nil {
		return nil, number(err)
	}
	l := make([]int, 0, roundCount)
	for _, w := range scheduleOf(block) {
		l = append(l, int(w))
	}
	return l, api.OK
}

// Round is a state with the round i, of the word w.
func Round(s api.State, i int, w int) (api.State, api.Errno) {
	n, err := narrow(s)
	if err == nil {
		err = checkRound(i, w)
	}
	if err != nil {
		return api.State{}, number(err)
	}
	return n.round(i, uint32(w)).wide(), api.OK
}

// Compress is a state with a block.
func Compress(s api.State, block string) (api.State, api.Errno) {
	n, err := narrow(s)
	if err == nil {
		err = checkBlock(block)
	}
	if err != nil {
		return api.State{}, number(err)
	}
	m := machine{state: n, before: n}
	m.run(scheduleOf(block))
	return m.wide(), api.OK
}

// Bytes are those of a state's words.
func Bytes(s api.State) (string, api.Errno) {
	n, err := narrow(s)
	if err != nil {
		return "", number(err)
	}
	return n.bytes(), api.OK
}

func checkBlock(block string) error {
	if len(block) != blockSize {
		return errBlock
	}
	return nil
}

func checkRound(i int, w int) error {
	if i < 0 || i >= roundCount || w < 0 || w > api.MaxWord {
		return errWord
	}
	return nil
}

func number(err error) api.Errno {
	switch {
	case err == nil:
		return api.OK
	case errors.Is(err, errBlock):
		return api.ErrBlock
	default:
		return api.ErrWord
	}
}
