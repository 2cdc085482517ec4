package iso

import (
	"errors"

	"sigillary/api"
)

// What a walk ends with.
var (
	errAll   = errors.New("iso: all pairs were come to")
	errUnfit = errors.New("iso: two nodes do not fit")
	errOther = errors.New("iso: a node is with two others")
)

// rule tells what the first of some pairs that breaks it breaks; nil, if none does.
type rule func(pairs ...api.Pair) error

// match tells of nodes of two graphs with which one of the other graph they are.
type match struct {
	ofA, ofB map[int]int
}

func newMatch() match { return match{map[int]int{}, map[int]int{}} }

// take is the rule that no node is with two others, of these pairs and all that were taken ahead of them.
func (m match) take(pairs ...api.Pair) error {
	for _, p := range pairs {
		b, withB := m.ofA[p.A]
		a, withA := m.ofB[p.B]
		if withB && b != p.B || withA && a != p.A {
			return errOther
		}
		m.ofA[p.A], m.ofB[p.B] = p.B, p.A
	}
	return nil
}
