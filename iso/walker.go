package iso

import (
	"iter"

	"sigillary/api"
)

// walker goes through two right graphs together.
type walker struct{ view }

// walkerOf is that of two graphs, or arena's error, of the first one first.
func walkerOf(g, h api.Graph) (walker, api.Errno) {
	a, e := sideOf(g)
	if e != api.OK {
		return walker{}, e
	}
	b, e := sideOf(h)
	if e != api.OK {
		return walker{}, e
	}
	return walker{view{a, b}}, api.OK
}

// walk are the pairs up to the first one that breaks a rule, with it, and what the walk ends with.
func (w walker) walk(rules ...rule) ([]api.Pair, error) {
	var l []api.Pair
	end := errAll
look:
	for p := range w.pairs() {
		l = append(l, p)
		for _, ask := range rules {
			if err := ask(p); err != nil {
				end = err
				break look
			}
		}
	}
	return l, end
}

// pairs goes through those that are walked to, as they are come to first. From two that do not fit nothing is walked to: who goes through them leaves there.
func (w walker) pairs() iter.Seq[api.Pair] {
	return func(yield func(api.Pair) bool) {
		come := map[api.Pair]bool{}
		// What of each row is still to be walked to, the last row first. Rows share their nodes' lists: there may be many pairs, and each of them may have many kids.
		next := []row{w.roots()}
		for len(next) > 0 {
			last := len(next) - 1
			if len(next[last].a) == 0 {
				next = next[:last]
				continue
			}
			p := next[last].take()
			if come[p] {
				continue
			}
			come[p] = true
			if !yield(p) {
				return
			}
			next = append(next, w.kids(p))
		}
	}
}
