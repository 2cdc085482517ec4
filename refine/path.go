package refine

import (
	"iter"
	"slices"

	"sigillary/api"
)

// kids goes through those of two nodes that have as many, side by side, by their numbers.
func (p partition) kids(at api.Pair) iter.Seq2[int, api.Pair] {
	return func(yield func(int, api.Pair) bool) {
		b := p.L[at.B].Kids
		for n, a := range p.L[at.A].Kids {
			if !yield(n, api.Pair{A: a, B: b[n]}) {
				return
			}
		}
	}
}

// parted are the first kids of two nodes that are of two classes, and their number.
func (p partition) parted(at api.Pair, classes ...int) (n int, kids api.Pair) {
look:
	for n, kids = range p.kids(at) {
		if classes[kids.A] != classes[kids.B] {
			break look
		}
	}
	return n, kids
}

// path is the first one of the shortest on which two nodes come to differ by themselves, as the classes tell that had them together. A round parts two nodes of one class just if their kids were of two ahead of it: each number leads one round back, to the first such kids.
func (p partition) path(at api.Pair, rounds ...[]int) []int {
	var path []int
	next := func(classes []int) {
		n, kids := p.parted(at, classes...)
		path, at = longer(path, n), kids
	}
	// Ahead of the first round all nodes are of one class.
	for _, classes := range slices.Backward(rounds[1:]) {
		next(classes)
	}
	return path
}

// longer is a path with one number behind it, in memory of its own.
func longer(path []int, n int) []int {
	out := make([]int, len(path)+1)
	copy(out, path)
	out[len(path)] = n
	return out
}
