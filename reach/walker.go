package reach

import (
	"iter"
	"slices"

	"sigillary/api"
	"sigillary/arena"
)

// walker goes through a right graph.
type walker struct {
	api.Graph
	known map[int][]int // the kids of nodes that were asked for: a path may come to a node often, and its kids may be many
}

// walkerOf is a graph's walker, or arena's error, if the graph is not right.
func walkerOf(g api.Graph) (walker, api.Errno) {
	if _, e := arena.Check(g); e != api.OK {
		return walker{}, e
	}
	return walker{g, map[int][]int{}}, api.OK
}

// kids are the places of a node's kids. They stay the walker's own.
func (w walker) kids(place int) []int {
	l, known := w.known[place]
	if !known {
		l, _ = arena.Kids(w.Graph, place) // no error: in a right graph each place that is come to has a node
		w.known[place] = l
	}
	return l
}

// nodes goes through the places of those that are reached, as the walk comes to them first.
func (w walker) nodes() iter.Seq[int] {
	return func(yield func(int) bool) {
		come := map[int]bool{}
		var next []int // the last one is walked to first
		lay := func(places ...int) {
			for _, place := range slices.Backward(places) {
				next = append(next, place)
			}
		}
		lay(w.Root)
		for len(next) > 0 {
			last := len(next) - 1
			place := next[last]
			next = next[:last]
			if come[place] {
				continue
			}
			come[place] = true
			if !yield(place) {
				return
			}
			lay(w.kids(place)...)
		}
	}
}

// follow goes by a path of numbers of kids, if there are such.
func (w walker) follow(path ...int) (int, bool) {
	at := w.Root
	for _, n := range path {
		kids := w.kids(at)
		if n < 0 || n >= len(kids) {
			return 0, false
		}
		at = kids[n]
	}
	return at, true
}
