package rounds

import "sigillary/api"

// constants are those of the rounds, from 0 on.
var constants = [roundCount]uint32{
	0x428a2f98, 0x71374491, 0xb5c0fbcf, 0xe9b5dba5, 0x3956c25b, 0x59f111f1, 0x923f82a4, 0xab1c5ed5,
	0xd807aa98, 0x12835b01, 0x243185be, 0x550c7dc3, 0x72be5d74, 0x80deb1fe, 0x9bdc06a7, 0xc19bf174,
	0xe49b69c1, 0xefbe4786, 0x0fc19dc6, 0x240ca1cc, 0x2de92c6f, 0x4a7484aa, 0x5cb0a9dc, 0x76f988da,
	0x983e5152, 0xa831c66d, 0xb00327c8, 0xbf597fc7, 0xc6e00bf3, 0xd5a79147, 0x06ca6351, 0x14292967,
	0x27b70a85, 0x2e1b2138, 0x4d2c6dfc, 0x53380d13, 0x650a7354, 0x766a0abb, 0x81c2c92e, 0x92722c85,
	0xa2bfe8a1, 0xa81a664b, 0xc24b8b70, 0xc76c51a3, 0xd192e819, 0xd6990624, 0xf40e3585, 0x106aa070,
	0x19a4c116, 0x1e376c08, 0x2748774c, 0x34b0bcb5, 0x391c0cb3, 0x4ed8aa4a, 0x5b9cca4f, 0x682e6ff3,
	0x748f82ee, 0x78a5636f, 0x84c87814, 0x8cc70208, 0x90befffa, 0xa4506ceb, 0xbef9a3f7, 0xc67178f2,
}

// state is an api.State whose numbers can be nothing but words, and whose sums wrap round by themselves.
type state [8]uint32

// narrow is s in words. One of its numbers that is no word loses bits, so that s does not come back.
func narrow(s api.State) (state, error) {
	var n state
	for i, x := range s {
		n[i] = uint32(x)
	}
	if n.wide() != s {
		return state{}, errWord
	}
	return n, nil
}

func (s state) wide() api.State {
	var out api.State
	for i, w := range s {
		out[i] = int(w)
	}
	return out
}

// round is s with the round i, which must be one, of the word w.
func (s state) round(i int, w uint32) state {
	a, b, c, d, e, f, g, h := s[0], s[1], s[2], s[3], s[4], s[5], s[6], s[7]
	t1 := h + turned(e, 6, 11, 25) + ((e & f) ^ (^e & g)) + constants[i] + w
	t2 := turned(a, 2, 13, 22) + ((a & b) ^ (a & c) ^ (b & c))
	return state{t1 + t2, a, b, c, d + t1, e, f, g}
}

func (s state) plus(o state) state {
	for i, w := range o {
		s[i] += w
	}
	return s
}

func (s state) bytes() string {
	out := make([]byte, 0, 4*len(s))
	for _, w := range s {
		out = append(out, byte(w>>24), byte(w>>16), byte(w>>8), byte(w))
	}
	return string(out)
}

// machine makes a block's rounds on the state that it embeds, and keeps the one of before, to be added behind the last one.
type machine struct {
	state
	before state
}

func (m *machine) run(l schedule) {
	for i, w := range l {
		m.state = m.round(i, w)
	}
	m.state = m.plus(m.before)
}
