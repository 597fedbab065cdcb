package auth_test

import (
	"bytes"
	"crypto/aes"
	"crypto/sha256"
	"encoding/hex"
	"math/big"
	"strings"
	"testing"

	"foliot/auth"
)

// cmacOf is what P4.3 says, by the library's cipher and its great numbers.
func cmacOf(key [16]byte, b []byte) [16]byte {
	c, err := aes.NewCipher(key[:])
	if err != nil {
		panic(err)
	}
	double := func(n *big.Int) *big.Int {
		n = new(big.Int).Lsh(n, 1)
		if n.Bit(128) == 1 {
			n.SetBit(n, 128, 0)
			n.Xor(n, big.NewInt(135))
		}
		return n
	}
	hide := func(n *big.Int) *big.Int {
		var block [16]byte
		n.FillBytes(block[:])
		c.Encrypt(block[:], block[:])
		return new(big.Int).SetBytes(block[:])
	}
	k1 := double(hide(new(big.Int)))
	mark := k1
	padded := append([]byte(nil), b...)
	if len(b) == 0 || len(b)%16 != 0 {
		mark = double(k1)
		padded = append(padded, 128)
		padded = append(padded, make([]byte, (16-len(padded)%16)%16)...)
	}
	x := new(big.Int)
	for i := 0; i < len(padded); i += 16 {
		block := new(big.Int).SetBytes(padded[i : i+16])
		if i+16 == len(padded) {
			block.Xor(block, mark)
		}
		x = hide(x.Xor(x, block))
	}
	var made [16]byte
	x.FillBytes(made[:])
	return made
}

func holdSHA(t *testing.T, b []byte) {
	t.Helper()
	if got, want := auth.SHA(b), sha256.Sum256(b); got != want {
		t.Errorf("SHA of %d bytes is %x, not %x", len(b), got, want)
	}
}

func holdAES(t *testing.T, key, block [16]byte) {
	t.Helper()
	c, err := aes.NewCipher(key[:])
	if err != nil {
		t.Fatal(err)
	}
	var want [16]byte
	c.Encrypt(want[:], block[:])
	if got := auth.AES(key, block); got != want {
		t.Errorf("AES of %x, %x is %x, not %x", key, block, got, want)
	}
}

func holdCMAC(t *testing.T, key [16]byte, b []byte) {
	t.Helper()
	if got, want := auth.CMAC(key, b), cmacOf(key, b); got != want {
		t.Errorf("CMAC by %x of %d bytes is %x, not %x", key, len(b), got, want)
	}
}

// P4.1: the chapter's examples, and others that are widely known.
func TestSHAExamples(t *testing.T) {
	for text, want := range map[string]string{
		"":    "e3b0c44298fc1c149afbf4c8996fb92427ae41e4649b934ca495991b7852b855",
		"abc": "ba7816bf8f01cfea414140de5dae2223b00361a396177a9cb410ff61f20015ad",
		"abcdbcdecdefdefgefghfghighijhijkijkljklmklmnlmnomnopnopq": "248d6a61d20638b8e5c026930c3e6039a33ce45964ff2167f6ecedd419db06c1",
		strings.Repeat("a", 1000000):                               "cdc76e5c9914fb9281a1c7e284d73e67f1809a48a497200e046d39ccc7112cd0",
	} {
		d := auth.SHA([]byte(text))
		if got := hex.EncodeToString(d[:]); got != want {
			t.Errorf("SHA of %d bytes is %s, not %s", len(text), got, want)
		}
	}
}

// P4.1: every number of bytes round the blocks' ends (55, 56, 63, 64 and 65 among them), and numbers of bits of several bytes.
func TestSHALengths(t *testing.T) {
	r := draws(1)
	for count := range 600 {
		holdSHA(t, drawn(r, count))
		holdSHA(t, make([]byte, count))
		holdSHA(t, bytes.Repeat([]byte{255}, count))
	}
	for _, count := range []int{4095, 8191, 8192, 8193, 65535, 65536, 1<<21 - 1, 1 << 21, 1<<21 + 55, 1<<21 + 56} {
		holdSHA(t, drawn(r, count))
	}
	holdSHA(t, nil)
}

// P4.1: each bit of a message counts.
func TestSHABits(t *testing.T) {
	for _, count := range []int{1, 55, 56, 64, 119, 120} {
		b := run(count, 0)
		for bit := range count * 8 {
			b[bit/8] ^= 1 << (bit % 8)
			holdSHA(t, b)
			b[bit/8] ^= 1 << (bit % 8)
		}
	}
}

// P4.2: the chapter's example, each bit of a key and of a block, each byte, drawn ones.
func TestAES(t *testing.T) {
	got := auth.AES([16]byte(sixteen("000102030405060708090a0b0c0d0e0f")), [16]byte(sixteen("00112233445566778899aabbccddeeff")))
	if hex.EncodeToString(got[:]) != "69c4e0d86a7b0430d8cdb78070b4c55a" {
		t.Errorf("AES of the example is %x", got)
	}
	for bit := range 128 {
		var one [16]byte
		one[bit/8] = 128 >> (bit % 8)
		holdAES(t, one, [16]byte{})
		holdAES(t, [16]byte{}, one)
		holdAES(t, one, one)
	}
	for b := range 256 {
		same := [16]byte(bytes.Repeat([]byte{byte(b)}, 16))
		holdAES(t, same, [16]byte{})
		holdAES(t, [16]byte{}, same)
		holdAES(t, same, same)
	}
	r := draws(2)
	for range 3000 {
		holdAES(t, [16]byte(drawn(r, 16)), [16]byte(drawn(r, 16)))
	}
}

// P4.3: the chapter's examples, and others that are widely known.
func TestCMACExamples(t *testing.T) {
	key := [16]byte(sixteen("2b7e151628aed2a6abf7158809cf4f3c"))
	text := sixteen("6bc1bee22e409f96e93d7e117393172a ae2d8a571e03ac9c9eb76fac45af8e51 30c81c46a35ce411e5fbc1191a0a52ef f69f2445df4f9b17ad2b417be66c3710")
	for count, want := range map[int]string{
		0: "bb1d6929e95937287fa37d129b756746", 16: "070a16b46b4d4144f79bdd9dd04a287c",
		40: "dfa66747de9ae63030ca32611497c827", 64: "51f0bebf7e3b9d92fc49741779363cfe",
	} {
		m := auth.CMAC(key, text[:count])
		if got := hex.EncodeToString(m[:]); got != want {
			t.Errorf("CMAC of %d bytes is %s, not %s", count, got, want)
		}
	}
}

// P4.3: every number of bytes round the blocks' ends (15, 16 and 17 among them); keys by which each doubling loses a bit, and keeps it.
func TestCMACLengths(t *testing.T) {
	r := draws(3)
	lost := map[[2]bool]int{}
	for range 40 {
		key := [16]byte(drawn(r, 16))
		hidden := auth.AES(key, [16]byte{})
		lost[[2]bool{hidden[0]&128 != 0, hidden[0]&64 != 0}]++
		for _, count := range []int{0, 1, 14, 15, 16, 17, 31, 32, 33, 47, 48, 49, 200} {
			holdCMAC(t, key, drawn(r, count))
		}
	}
	if len(lost) != 4 {
		t.Errorf("the keys drawn are of %d kinds", len(lost))
	}
	for count := range 300 {
		holdCMAC(t, [16]byte{}, make([]byte, count))
		holdCMAC(t, [16]byte(run(16, 0)), bytes.Repeat([]byte{255}, count))
	}
	holdCMAC(t, [16]byte{}, nil)
	holdCMAC(t, [16]byte{}, drawn(r, 100000))
}

// P4.3: a message that is filled by its own bytes is another one.
func TestCMACFilled(t *testing.T) {
	for count := range 16 {
		short := run(count, 0)
		filled := append(append([]byte(nil), short...), 128)
		filled = append(filled, make([]byte, 15-count)...)
		if auth.CMAC([16]byte{1}, short) == auth.CMAC([16]byte{1}, filled) {
			t.Errorf("%d bytes and their filled block have the same digest", count)
		}
	}
}

// R3: messages stay as they are, with what lies behind them; R5: one answer.
func TestDigestsLeaveAlone(t *testing.T) {
	for count := range 130 {
		room := run(200, 9)
		a, m := auth.SHA(room[:count]), auth.CMAC([16]byte(run(16, 0)), room[:count])
		if !bytes.Equal(room, run(200, 9)) {
			t.Fatalf("%d bytes are changed, or what lies behind them", count)
		}
		if a != auth.SHA(room[:count:count]) || m != auth.CMAC([16]byte(run(16, 0)), room[:count:count]) {
			t.Fatalf("what lies behind %d bytes counts", count)
		}
	}
}
