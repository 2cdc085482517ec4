package refine

import (
	"strings"

	"sigillary/api"
	"sigillary/arena"
	"sigillary/scal"
)

// partition puts the nodes of right graphs into classes. Its graph are all of them as one: the nodes of each stand behind those of the graphs ahead of it, and the keys of maps so that they rise, with their kids.
type partition struct {
	api.Graph
	own     []int       // the number of what each node says by itself: texts may be long, and are not to be looked at in each round
	numbers map[own]int // of what was met
}

// own is what a node says by itself, but for the number of its kids.
type own struct {
	kind int
	x    api.Scalar
	keys string
}

// partitionOf is that of some graphs, or arena's error of the first one that is not right.
func partitionOf(graphs ...api.Graph) (partition, api.Errno) {
	p := partition{numbers: map[own]int{}}
	for _, g := range graphs {
		if _, e := arena.Check(g); e != api.OK {
			return partition{}, e
		}
		p.lay(g)
	}
	return p, api.OK
}

// lay lays a right graph's nodes behind those that are there.
func (p *partition) lay(g api.Graph) {
	ahead := len(p.L)
	for i, n := range g.L {
		// No errors: each i is the place of a node.
		n.Keys, _ = arena.Keys(g, i)
		n.Kids, _ = arena.Kids(g, i)
		for k := range n.Kids {
			n.Kids[k] += ahead
		}
		p.L = append(p.L, n)
		p.own = append(p.own, numbered(p.numbers, own{n.Kind, n.X, textOf(n.Keys...)}))
	}
}

// textOf is the text of some keys: that of each, and a line's end, which stands in no scalar's text.
func textOf(keys ...api.Scalar) string {
	var b strings.Builder
	for _, key := range keys {
		s, _ := scal.Text(key) // no error: the keys of what is right are scalars
		b.WriteString(s)
		b.WriteByte('\n')
	}
	return b.String()
}

// numbered is the number of what was met, or the next one, if it was not met yet.
func numbered[T comparable](numbers map[T]int, x T) int {
	n, met := numbers[x]
	if !met {
		n = len(numbers)
		numbers[x] = n
	}
	return n
}

// has tells whether these are all places of nodes.
func (p partition) has(places ...int) bool {
	for _, place := range places {
		if place < 0 || place >= len(p.L) {
			return false
		}
	}
	return true
}
