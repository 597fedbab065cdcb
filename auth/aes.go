package auth

import "math/bits"

const (
	aesRounds = 10
	aesField  = 27 // what is left of x^8 modulo x^8 + x^4 + x^3 + x + 1
	aesAdded  = 99 // what is added to each substitute
)

// aesBlock is four columns of four bytes, one behind the other.
type aesBlock [16]byte

// aesCipher is what a key is worked out to, once for all the blocks that it hides.
type aesCipher struct {
	substitutes [256]byte
	keys        [aesRounds + 1]aesBlock
}

func AES(key, block [16]byte) [16]byte {
	return newCipher(key).of(block)
}

func newCipher(key aesBlock) *aesCipher {
	c := &aesCipher{substitutes: makeSubstitutes()}
	c.keys[0] = key
	power := byte(1)
	for k := 1; k <= aesRounds; k++ {
		c.keys[k] = c.keyBehind(c.keys[k-1], power)
		power = twice(power)
	}
	return c
}

// makeSubstitutes meets every byte but 0 as a power of 3, with its inverse, the same power of 3's inverse 246.
func makeSubstitutes() [256]byte {
	made := [256]byte{aesAdded}
	power, inverse := byte(1), byte(1)
	for range 255 {
		made[power] = spread(inverse)
		power, inverse = times(power, 3), times(inverse, 246)
	}
	return made
}

// spread makes of a byte's inverse its substitute.
func spread(b byte) byte {
	sum := b ^ aesAdded
	for places := 1; places <= 4; places++ {
		sum ^= bits.RotateLeft8(b, places)
	}
	return sum
}

func times(a, b byte) byte {
	product := byte(0)
	for ; b > 0; b >>= 1 {
		if b&1 == 1 {
			product ^= a
		}
		a = twice(a)
	}
	return product
}

func twice(a byte) byte {
	if a&128 != 0 {
		return a<<1 ^ aesField
	}
	return a << 1
}

// keyBehind is the round key that comes behind key; power is the power of x of its first word.
func (c *aesCipher) keyBehind(key aesBlock, power byte) aesBlock {
	turned := [4]byte{key[13], key[14], key[15], key[12]}
	for i, b := range turned {
		key[i] ^= c.substitutes[b]
	}
	key[0] ^= power
	for i := 4; i < len(key); i++ {
		key[i] ^= key[i-4]
	}
	return key
}

// of is the block, hidden.
func (c *aesCipher) of(b aesBlock) aesBlock {
	b = b.xor(c.keys[0])
	for k := 1; k <= aesRounds; k++ {
		b = c.substituted(b).turned()
		if k != aesRounds {
			b = b.mixed()
		}
		b = b.xor(c.keys[k])
	}
	return b
}

func (c *aesCipher) substituted(b aesBlock) aesBlock {
	for i, old := range b {
		b[i] = c.substitutes[old]
	}
	return b
}

// turned has each row turned to the left by as many places as its number says.
func (b aesBlock) turned() aesBlock {
	var made aesBlock
	for i := range made {
		row := i % 4
		made[i] = b[(i+4*row)%16]
	}
	return made
}

func (b aesBlock) mixed() aesBlock {
	var made aesBlock
	for i := range made {
		first := i / 4 * 4
		at := func(row int) byte { return b[first+(i+row)%4] }
		made[i] = twice(at(0)) ^ twice(at(1)) ^ at(1) ^ at(2) ^ at(3)
	}
	return made
}

func (b aesBlock) xor(other aesBlock) aesBlock {
	for i, o := range other {
		b[i] ^= o
	}
	return b
}
