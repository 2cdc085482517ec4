package arena

import (
	"iter"
	"slices"

	"sigillary/api"
	"sigillary/scal"
)

// pair is a key, and the place of the kid under it.
type pair struct {
	key api.Scalar
	kid int
}

// pairs goes through those of a map, as they are laid. A map that is not right may have keys without a kid, or kids without a key: they are none.
func (v view) pairs() iter.Seq[pair] {
	return func(yield func(pair) bool) {
		if v.Kind != api.Map {
			return
		}
		for i := range min(len(v.Keys), len(v.Kids)) {
			if !yield(pair{v.Keys[i], v.Kids[i]}) {
				return
			}
		}
	}
}

// places are those of the kids, in a list of its own.
func (v view) places() []int {
	switch {
	case v.isPaired():
		return v.byKeys()
	case v.Kind == api.Seq:
		return slices.Clone(v.Kids)
	}
	return nil
}

// byKeys are the places of a map's kids, so that their keys rise. Of keys that are the same the first one stays first.
func (v view) byKeys() []int {
	l := slices.Collect(v.pairs())
	slices.SortStableFunc(l, func(a, b pair) int { return scal.Compare(a.key, b.key) })
	out := make([]int, 0, len(l))
	for _, p := range l {
		out = append(out, p.kid)
	}
	return out
}

// under is the first kid of a map under that key, if there is one.
func (v view) under(key api.Scalar) (kid int, ok bool) {
look:
	for p := range v.pairs() {
		if p.key == key {
			kid, ok = p.kid, true
			break look
		}
	}
	return kid, ok
}
