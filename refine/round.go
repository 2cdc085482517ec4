package refine

import (
	"iter"
	"slices"
	"unicode/utf8"

	"sigillary/api"
)

// said is what a node says: by itself, and by the classes of its kids.
type said struct {
	own  int
	kids string // a sign for the class of each
}

// says is what a node says, while nodes are of these classes, by their places.
func (p partition) says(place int, classes ...int) said {
	l := p.L[place].Kids
	kids := make([]byte, 0, len(l))
	for _, kid := range l {
		// There are too few classes for a number that is no sign's.
		kids = utf8.AppendRune(kids, rune(classes[kid]))
	}
	return said{p.own[place], string(kids)}
}

// nodes goes through what all nodes say, by their places.
func (p partition) nodes(classes ...int) iter.Seq[said] {
	return func(yield func(said) bool) {
		for place := range p.L {
			if !yield(p.says(place, classes...)) {
				return
			}
		}
	}
}

// round are the classes of nodes that say the same while they are of the classes that are there. They are numbered in the order of their first nodes.
func (p partition) round(classes ...int) []int {
	numbers := map[said]int{}
	finer := make([]int, 0, len(classes))
	for x := range p.nodes(classes...) {
		finer = append(finer, numbered(numbers, x))
	}
	return finer
}

// rounds goes through the classes that there are ahead of each round, from a single one on, until a round splits none. Those ahead of the n-th round, from 0 on, tell apart what comes to differ on a path of less than n numbers.
func (p partition) rounds(round func(classes ...int) []int) iter.Seq[[]int] {
	return func(yield func([]int) bool) {
		classes := make([]int, len(p.L))
		for yield(classes) {
			finer := round(classes...)
			if slices.Equal(finer, classes) {
				return
			}
			classes = finer
		}
	}
}

// settled are the classes that no round splits.
func (p partition) settled() []int {
	var last []int
	for classes := range p.rounds(p.round) {
		last = classes
	}
	return last
}

// together are the classes ahead of the rounds as long as two nodes are of the same one, and whether they come to be of two.
func (p partition) together(at api.Pair) (rounds [][]int, apart bool) {
look:
	for classes := range p.rounds(p.round) {
		if classes[at.A] != classes[at.B] {
			apart = true
			break look
		}
		rounds = append(rounds, classes)
	}
	return rounds, apart
}
