package auth

import "math/bits"

const (
	shaBlock  = 64 // bytes of a block
	shaLength = 56 // where in the last block the number of bits stands
	endMark   = 128
)

// shaRounds are the constants K0 to K63, one a round.
var shaRounds = [64]uint32{
	0x428a2f98, 0x71374491, 0xb5c0fbcf, 0xe9b5dba5, 0x3956c25b, 0x59f111f1, 0x923f82a4, 0xab1c5ed5,
	0xd807aa98, 0x12835b01, 0x243185be, 0x550c7dc3, 0x72be5d74, 0x80deb1fe, 0x9bdc06a7, 0xc19bf174,
	0xe49b69c1, 0xefbe4786, 0x0fc19dc6, 0x240ca1cc, 0x2de92c6f, 0x4a7484aa, 0x5cb0a9dc, 0x76f988da,
	0x983e5152, 0xa831c66d, 0xb00327c8, 0xbf597fc7, 0xc6e00bf3, 0xd5a79147, 0x06ca6351, 0x14292967,
	0x27b70a85, 0x2e1b2138, 0x4d2c6dfc, 0x53380d13, 0x650a7354, 0x766a0abb, 0x81c2c92e, 0x92722c85,
	0xa2bfe8a1, 0xa81a664b, 0xc24b8b70, 0xc76c51a3, 0xd192e819, 0xd6990624, 0xf40e3585, 0x106aa070,
	0x19a4c116, 0x1e376c08, 0x2748774c, 0x34b0bcb5, 0x391c0cb3, 0x4ed8aa4a, 0x5b9cca4f, 0x682e6ff3,
	0x748f82ee, 0x78a5636f, 0x84c87814, 0x8cc70208, 0x90befffa, 0xa4506ceb, 0xbef9a3f7, 0xc67178f2,
}

// shaState is what SHA has made of the blocks so far.
type shaState [8]uint32

func SHA(b []byte) [32]byte {
	state := shaState{
		0x6a09e667, 0xbb67ae85, 0x3c6ef372, 0xa54ff53a, 0x510e527f, 0x9b05688c, 0x1f83d9ab, 0x5be0cd19,
	}
	rest := b
	for ; len(rest) >= shaBlock; rest = rest[shaBlock:] {
		state = state.behind([shaBlock]byte(rest))
	}
	var last [shaBlock]byte
	copy(last[:], rest)
	last[len(rest)] = endMark
	if len(rest) >= shaLength {
		state = state.behind(last)
		last = [shaBlock]byte{}
	}
	putBits(last[shaLength:], uint64(len(b))*8)
	return state.behind(last).bytes()
}

func putBits(place []byte, count uint64) {
	for i := len(place) - 1; i >= 0; i-- {
		place[i] = byte(count)
		count >>= 8
	}
}

// behind is the state behind one block more.
func (s shaState) behind(block [shaBlock]byte) shaState {
	words := shaWords(block)
	a, b, c, d, e, f, g, h := s[0], s[1], s[2], s[3], s[4], s[5], s[6], s[7]
	for i, w := range words {
		t := h + (right(e, 6) ^ right(e, 11) ^ right(e, 25)) + (e&f ^ ^e&g) + shaRounds[i] + w
		u := (right(a, 2) ^ right(a, 13) ^ right(a, 22)) + (a&b ^ a&c ^ b&c)
		a, b, c, d, e, f, g, h = t+u, a, b, c, d+t, e, f, g
	}
	for i, w := range [...]uint32{a, b, c, d, e, f, g, h} {
		s[i] += w
	}
	return s
}

// shaWords are a block's words, and those that are made of them.
func shaWords(block [shaBlock]byte) [64]uint32 {
	var words [64]uint32
	for i := range 16 {
		for _, c := range block[4*i : 4*i+4] {
			words[i] = words[i]<<8 | uint32(c)
		}
	}
	for i := 16; i < len(words); i++ {
		x, y := words[i-15], words[i-2]
		words[i] = words[i-16] + (right(x, 7) ^ right(x, 18) ^ x>>3) + words[i-7] + (right(y, 17) ^ right(y, 19) ^ y>>10)
	}
	return words
}

func (s shaState) bytes() [32]byte {
	var made [32]byte
	for i := range made {
		made[i] = byte(s[i/4] >> (24 - i%4*8))
	}
	return made
}

func right(x uint32, places int) uint32 {
	return bits.RotateLeft32(x, -places)
}
