package reach

import (
	"slices"
	"strings"

	"sigillary/api"
	"sigillary/arena"
)

// tidied is the graph of just those nodes that are reached, each at the place at which the walk comes to it.
func (w walker) tidied() api.Graph {
	places := slices.Collect(w.nodes())
	moved := map[int]int{}
	for i, place := range places {
		moved[place] = i
	}
	var out api.Graph
	for _, place := range places {
		out.L = append(out.L, w.copied(place, moved))
	}
	return out
}

// copied is a node with its keys so that they rise, and its kids where they were moved to.
func (w walker) copied(place int, moved map[int]int) api.Node {
	n := w.L[place]
	// The text that was handed in shares no memory with what is answered.
	n.X.S = strings.Clone(n.X.S)
	n.Keys = w.keys(place)
	n.Kids = make([]int, len(n.Kids))
	copy(n.Kids, w.kids(place))
	for i, kid := range n.Kids {
		n.Kids[i] = moved[kid]
	}
	return n
}

// keys are a map's so that they rise, in a list of their own.
func (w walker) keys(place int) []api.Scalar {
	l, _ := arena.Keys(w.Graph, place) // no error, as with kids
	return l
}

// isTidy tells whether the walk comes to all nodes, to each at its place, and whether their keys rise. That the Root is 0, it tells with that.
func (w walker) isTidy() bool {
	count := 0
look:
	for place := range w.nodes() {
		if place != count || !w.hasRisingKeys(place) {
			break look
		}
		count++
	}
	return count == len(w.L)
}

func (w walker) hasRisingKeys(place int) bool {
	return slices.Equal(w.L[place].Keys, w.keys(place))
}
