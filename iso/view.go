package iso

import (
	"slices"

	"sigillary/api"
	"sigillary/arena"
)

// side is a right graph, as one of two.
type side struct {
	api.Graph
	known map[int]api.Node // those that were asked for: a node may be in as many pairs as the other graph has nodes
}

// sideOf is a graph's, or arena's error, if the graph is not right.
func sideOf(g api.Graph) (side, api.Errno) {
	if _, e := arena.Check(g); e != api.OK {
		return side{}, e
	}
	return side{g, map[int]api.Node{}}, api.OK
}

// node is the one at a place, with its keys so that they rise, and its kids in that order.
func (s side) node(place int) api.Node {
	n, known := s.known[place]
	if !known {
		n = s.L[place]
		// No errors: in a right graph each place that is come to has a node.
		n.Keys, _ = arena.Keys(s.Graph, place)
		n.Kids, _ = arena.Kids(s.Graph, place)
		s.known[place] = n
	}
	return n
}

// view sees two right graphs side by side.
type view struct{ a, b side }

// row are places in both graphs that are side by side: as many in the one as in the other.
type row struct{ a, b []int }

// take takes the first two off.
func (r *row) take() api.Pair {
	p := api.Pair{A: r.a[0], B: r.b[0]}
	r.a, r.b = r.a[1:], r.b[1:]
	return p
}

func (v view) roots() row { return row{[]int{v.a.Root}, []int{v.b.Root}} }

// kids are those of two nodes that fit.
func (v view) kids(p api.Pair) row { return row{v.a.node(p.A).Kids, v.b.node(p.B).Kids} }

// fit is the rule that both nodes of a pair say the same, but for what their kids do.
func (v view) fit(pairs ...api.Pair) error {
	for _, p := range pairs {
		x, y := v.a.node(p.A), v.b.node(p.B)
		if x.Kind != y.Kind || x.X != y.X || len(x.Kids) != len(y.Kids) || !slices.Equal(x.Keys, y.Keys) {
			return errUnfit
		}
	}
	return nil
}
