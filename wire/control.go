package wire

import "foliot/api"

const (
	controlSize = 12 // of a packet of control, without Data and what stands behind it
	opBits      = 31
	moreBit     = 32
	errorBit    = 64
	responseBit = 128
)

func CheckControl(c api.Control) api.Errno {
	switch {
	case !controlFits(c), !digestFits(c.KeyID, c.MAC):
		return api.ErrForm
	case controlSize+filled(len(c.Data))+digestSize(c.KeyID, c.MAC) > api.MaxPacket:
		return api.ErrLong
	}
	return api.OK
}

func EncodeControl(c api.Control) ([]byte, api.Errno) {
	message, err := ControlMessage(c)
	if err != api.OK {
		return nil, err
	}
	w := writer{made: message}
	w.digest(c.KeyID, c.MAC)
	return w.made, api.OK
}

func ControlMessage(c api.Control) ([]byte, api.Errno) {
	if err := CheckControl(c); err != api.OK {
		return nil, err
	}
	w := writer{}
	for _, n := range [...]int{c.Version<<versionPlaces | api.ModeControl, flags(c) | c.Op} {
		w.number(1, uint64(n))
	}
	for _, n := range [...]int{c.Seq, c.Status, c.Assoc, c.Offset, len(c.Data)} {
		w.number(2, uint64(n))
	}
	w.bytes(c.Data)
	w.number(filled(len(c.Data))-len(c.Data), 0)
	return w.made, api.OK
}

func DecodeControl(b []byte) (api.Control, api.Errno) {
	r := read(b)
	c := r.control()
	var nak bool
	c.KeyID, c.MAC, nak = r.ending()
	r.ask(!nak, api.ErrForm)
	if r.err != api.OK {
		return api.Control{}, r.err
	}
	return c, api.OK
}

// control is all that stands ahead of a key.
func (r *reader) control() api.Control {
	var one [2]int
	for i := range one {
		one[i] = int(r.number(1))
	}
	var two [5]int
	for i := range two {
		two[i] = int(r.number(2))
	}
	// The leap indicator's bits stay in the version, which does not fit unless they are 0.
	version := one[0] >> versionPlaces
	r.ask(versionFits(version) && one[0]&threeBits == api.ModeControl, api.ErrForm)
	count := two[4]
	r.ask(filled(count) <= len(r.rest), api.ErrForm)
	data := r.bytes(count)
	r.ask(r.number(filled(count)-count) == 0, api.ErrForm)
	return api.Control{
		Version:  version,
		Response: one[1]&responseBit != 0,
		Error:    one[1]&errorBit != 0,
		More:     one[1]&moreBit != 0,
		Op:       one[1] & opBits,
		Seq:      two[0],
		Status:   two[1],
		Assoc:    two[2],
		Offset:   two[3],
		Data:     data,
	}
}

func controlFits(c api.Control) bool {
	for _, n := range [...]int{c.Seq, c.Status, c.Assoc, c.Offset} {
		if !within(n, 0, maxWord) {
			return false
		}
	}
	return versionFits(c.Version) && within(c.Op, 0, opBits)
}

// flags are the bits that stand above Op.
func flags(c api.Control) int {
	set := 0
	if c.Response {
		set |= responseBit
	}
	if c.Error {
		set |= errorBit
	}
	if c.More {
		set |= moreBit
	}
	return set
}

// filled is how many bytes count bytes are with those that fill.
func filled(count int) int {
	return (count + unit - 1) / unit * unit
}
