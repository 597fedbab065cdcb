package auth

const (
	cmacBlock = 16
	cmacField = 135 // what is added where doubling loses the highest bit
)

func CMAC(key [16]byte, b []byte) [16]byte {
	c := newCipher(key)
	var x aesBlock
	for ; len(b) > cmacBlock; b = b[cmacBlock:] {
		x = c.of(x.xor(aesBlock(b)))
	}
	whole := c.of(aesBlock{}).doubled()
	return c.of(x.xor(lastBlock(b, whole, whole.doubled())))
}

// lastBlock is filled, and marked as whole or as filled.
func lastBlock(b []byte, whole, filled aesBlock) aesBlock {
	if len(b) == cmacBlock {
		return aesBlock(b).xor(whole)
	}
	var last aesBlock
	copy(last[:], b)
	last[len(b)] = endMark
	return last.xor(filled)
}

func (b aesBlock) doubled() aesBlock {
	var made aesBlock
	carried := byte(0)
	for i := len(b) - 1; i >= 0; i-- {
		made[i] = b[i]<<1 | carried
		carried = b[i] >> 7
	}
	if carried == 1 {
		made[len(made)-1] ^= cmacField
	}
	return made
}
