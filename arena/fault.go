package arena

import (
	"errors"

	"sigillary/api"
)

// fault is what is wrong, with the place and the number that tell it.
type fault struct {
	at  int
	no  api.Errno
	why string
}

func (f fault) Error() string { return "arena: " + f.why }

// told is what a call answers where that is wrong, or nothing is.
func told(err error) (int, api.Errno) {
	var f fault
	if errors.As(err, &f) {
		return f.at, f.no
	}
	return 0, api.OK
}

// check finds the first fault with a graph.
func check(g api.Graph) error {
	if len(g.L) > api.MaxNodes {
		return fault{0, api.ErrLimit, "too many nodes"}
	}
	if !isPlace(g.Root, len(g.L)) {
		return fault{-1, api.ErrGraph, "the Root is no node's place"}
	}
	var err error
look:
	for i, v := range views(g) {
		if !v.isRight() {
			err = fault{i, api.ErrGraph, "a node is not right"}
			break look
		}
	}
	return err
}
