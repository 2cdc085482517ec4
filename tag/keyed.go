package tag

import (
	"sigillary/api"
	"sigillary/digest"
)

const (
	blockSize = 64 // bytes
	innerMask = 0x36
	outerMask = 0x5c
)

// block are a key's bytes, or those of its sum, with noughts behind them.
type block [blockSize]byte

// masked are its bytes, each xor a mask.
func (b block) masked(mask byte) string {
	for i := range b {
		b[i] ^= mask
	}
	return string(b[:])
}

// refusal is what a hasher tells that refuses a text.
type refusal api.Errno

func (r refusal) Error() string { return "tag: refused by the hasher" }

// number is what a call answers where a text was refused, or none was.
func number(err error) api.Errno {
	if r, ok := err.(refusal); ok {
		return api.Errno(r)
	}
	return api.OK
}

// keyed is a hasher with a key, which makes tags. That a key or a text is too long, the hasher itself tells:
// with the key ahead of it, a text has just so much less room than a message has.
type keyed struct {
	*digest.Hasher
	key block
}

func keyedBy(key string) (*keyed, error) {
	k := &keyed{Hasher: digest.New()}
	if len(key) > len(k.key) {
		sum, err := k.sum(key)
		if err != nil {
			return nil, err
		}
		key = sum
	}
	copy(k.key[:], key)
	return k, nil
}

// sum is that of some texts, each behind the one ahead of it.
func (k *keyed) sum(texts ...string) (string, error) {
	k.Reset()
	for _, text := range texts {
		if e := k.Write(text); e != api.OK {
			return "", refusal(e)
		}
	}
	return k.Sum(), nil
}

func (k *keyed) tag(text string) (string, error) {
	inner, err := k.sum(k.key.masked(innerMask), text)
	if err != nil {
		return "", err
	}
	return k.sum(k.key.masked(outerMask), inner)
}
