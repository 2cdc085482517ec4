package arena

import (
	"iter"
	"slices"

	"sigillary/api"
	"sigillary/plain"
	"sigillary/scal"
)

// view is a node, as it is seen among all of its graph.
type view struct {
	api.Node
	count int // how many nodes there are
}

// views goes through the nodes of a graph, by their places.
func views(g api.Graph) iter.Seq2[int, view] {
	return func(yield func(int, view) bool) {
		for i, n := range g.L {
			if !yield(i, view{n, len(g.L)}) {
				return
			}
		}
	}
}

// viewAt is the node at a place, if there is one.
func viewAt(g api.Graph, i int) (view, error) {
	if !isPlace(i, len(g.L)) {
		return view{}, fault{0, api.ErrArg, "no node's place"}
	}
	return view{g.L[i], len(g.L)}, nil
}

// isPlace tells whether that is the place of one of so many nodes.
func isPlace(i, count int) bool { return 0 <= i && i < count }

// sameNode tells whether two nodes have the same fields.
func sameNode(a, b api.Node) bool {
	return a.Kind == b.Kind && a.X == b.X && slices.Equal(a.Keys, b.Keys) && slices.Equal(a.Kids, b.Kids)
}

// isRight tells whether a node is what its kind asks for.
func (v view) isRight() bool {
	asks := [...]func(view) bool{api.One: view.isOne, api.Seq: view.isSeq, api.Map: view.isMap}
	return isPlace(v.Kind, len(asks)) && asks[v.Kind](v)
}

func (v view) isOne() bool {
	return v.follows(view.saysScalar, view.hasNoKeys, view.hasNoKids)
}

func (v view) isSeq() bool {
	return v.follows(view.saysNull, view.hasNoKeys, view.hasNodes)
}

func (v view) isMap() bool {
	return v.follows(view.saysNull, view.isPaired, view.hasScalars, view.hasNodes)
}

// follows tells whether a node follows some rules.
func (v view) follows(rules ...func(view) bool) bool {
	for _, holds := range rules {
		if !holds(v) {
			return false
		}
	}
	return true
}

func (v view) saysScalar() bool { return plain.Right(v.X) }

func (v view) saysNull() bool { return v.X == api.Scalar{Kind: api.Null} }

func (v view) hasNoKeys() bool { return len(v.Keys) == 0 }

func (v view) hasNoKids() bool { return len(v.Kids) == 0 }

// isPaired tells whether a node is a map, of as many keys as kids.
func (v view) isPaired() bool { return v.Kind == api.Map && len(v.Keys) == len(v.Kids) }

// hasScalars tells whether all keys are scalars, no two the same.
func (v view) hasScalars() bool {
	return !slices.ContainsFunc(v.Keys, isNone) && !scal.Twice(v.Keys)
}

func isNone(x api.Scalar) bool { return !plain.Right(x) }

// hasNodes tells whether all kids are places of nodes.
func (v view) hasNodes() bool {
	isNowhere := func(kid int) bool { return !isPlace(kid, v.count) }
	return !slices.ContainsFunc(v.Kids, isNowhere)
}
