package digest

import (
	"errors"

	"sigillary/api"
)

// What may be wrong, as it is wrapped by a fault.
var (
	errLength = errors.New("digest: no message has so many bytes")
	errRounds = errors.New("digest: refused by the rounds")
)

// fault wraps what is wrong with the number that tells it.
type fault struct {
	no    api.Errno
	cause error
}

func (f *fault) Error() string { return f.cause.Error() }

func (f *fault) Unwrap() error { return f.cause }

// number is what a call answers where that is wrong, or nothing is.
func number(err error) api.Errno {
	var f *fault
	if errors.As(err, &f) {
		return f.no
	}
	return api.OK
}

// checkLength finds fault with parts that together are as long as no message.
func checkLength(parts ...int) error {
	n := 0
	for _, p := range parts {
		if p < 0 || p > api.MaxText-n {
			return &fault{api.ErrLong, errLength}
		}
		n += p
	}
	return nil
}
