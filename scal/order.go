package scal

import (
	"iter"

	"sigillary/api"
)

// each goes through some scalars.
func each(l ...api.Scalar) iter.Seq[api.Scalar] {
	return func(yield func(api.Scalar) bool) {
		for _, x := range l {
			if !yield(x) {
				return
			}
		}
	}
}

// ahead tells whether one scalar is ahead of another one: the first of their fields that differs says it.
func ahead(a, b api.Scalar) bool {
	switch {
	case a.Kind != b.Kind:
		return a.Kind < b.Kind
	case a.N != b.N:
		return a.N < b.N
	}
	return a.S < b.S
}
