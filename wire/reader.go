package wire

import (
	"bytes"

	"foliot/api"
)

// reader goes through bytes. Its first error stays, and from then on it reads noughts: so a form is read as if all of it were there, and the error is looked at once.
type reader struct {
	rest []byte
	err  api.Errno
}

func read(b []byte) reader {
	r := reader{rest: b}
	r.ask(len(b) <= api.MaxPacket, api.ErrLong)
	return r
}

// ask: unless ok holds, err is the reader's, if it has none yet.
func (r *reader) ask(ok bool, err api.Errno) {
	if !ok && r.err == api.OK {
		r.err = err
	}
}

func (r *reader) take(count int) []byte {
	r.ask(within(count, 0, len(r.rest)), api.ErrShort)
	if r.err != api.OK {
		return nil
	}
	taken := r.rest[:count]
	r.rest = r.rest[count:]
	return taken
}

// bytes are new memory: an answer shares none with what was handed in.
func (r *reader) bytes(count int) []byte {
	return bytes.Clone(r.take(count))
}

func (r *reader) number(width int) uint64 {
	n := uint64(0)
	for _, b := range r.take(width) {
		n = n<<8 | uint64(b)
	}
	return n
}

// ending is what stands behind the last field, to the last byte: only its length tells what it is.
func (r *reader) ending() (key int, mac []byte, nak bool) {
	switch len(r.rest) {
	case 0:
	case keyBytes:
		r.ask(r.number(keyBytes) == 0, api.ErrForm)
		nak = true
	case keyBytes + shortMAC, keyBytes + longMAC:
		key = int(r.number(keyBytes))
		mac = r.bytes(len(r.rest))
		r.ask(digestFits(key, mac), api.ErrForm)
	default:
		r.ask(false, api.ErrForm)
	}
	return key, mac, nak
}
