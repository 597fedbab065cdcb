package wire

import (
	"math"
	"slices"

	"foliot/api"
	"foliot/stamp"
)

const (
	headerSize = 48 // of a packet of time, without what stands behind Xmt
	extHead    = 4  // bytes of a field ahead of its Data
	minData    = 24 // with fewer, a field could not be told from a digest
)

func Check(p api.Packet) api.Errno {
	switch {
	case !headerFits(p):
		return api.ErrForm
	case len(p.Exts) > api.MaxExt:
		return api.ErrMany
	case !extsFit(p.Exts):
		return api.ErrForm
	case !digestFits(p.KeyID, p.MAC), p.KeyID != 0 && p.Nak:
		return api.ErrForm
	case size(p) > api.MaxPacket:
		return api.ErrLong
	}
	return api.OK
}

func Encode(p api.Packet) ([]byte, api.Errno) {
	message, err := Message(p)
	if err != api.OK {
		return nil, err
	}
	w := writer{made: message}
	w.digest(p.KeyID, p.MAC)
	if p.Nak {
		w.number(keyBytes, 0)
	}
	return w.made, api.OK
}

func Message(p api.Packet) ([]byte, api.Errno) {
	if err := Check(p); err != api.OK {
		return nil, err
	}
	w := writer{}
	w.header(p)
	for _, e := range p.Exts {
		w.number(2, uint64(e.Type))
		w.number(2, uint64(extHead+len(e.Data)))
		w.bytes(e.Data)
	}
	return w.made, api.OK
}

func Decode(b []byte) (api.Packet, api.Errno) {
	r := read(b)
	p := r.header()
	r.ask(versionFits(p.Version) && modeFits(p.Mode), api.ErrForm)
	for r.err == api.OK && len(r.rest) > maxDigest {
		r.ask(len(p.Exts) < api.MaxExt, api.ErrMany)
		p.Exts = append(p.Exts, r.ext())
	}
	p.KeyID, p.MAC, p.Nak = r.ending()
	if r.err != api.OK {
		return api.Packet{}, r.err
	}
	return p, api.OK
}

func (w *writer) header(p api.Packet) {
	first := p.Leap<<leapPlaces | p.Version<<versionPlaces | p.Mode
	for _, n := range [...]int{first, p.Stratum, p.Poll, p.Precision} {
		w.number(1, uint64(n))
	}
	for _, n := range [...]uint32{stamp.ToShort(p.Delay), stamp.ToShort(p.Disp), p.RefID} {
		w.number(4, uint64(n))
	}
	for _, t := range [...]api.Stamp{p.Ref, p.Org, p.Rec, p.Xmt} {
		w.number(8, uint64(t))
	}
}

func (r *reader) header() api.Packet {
	var one [4]byte
	for i := range one {
		one[i] = byte(r.number(1))
	}
	var four [3]uint32
	for i := range four {
		four[i] = uint32(r.number(4))
	}
	var eight [4]api.Stamp
	for i := range eight {
		eight[i] = api.Stamp(r.number(8))
	}
	return api.Packet{
		Leap:      int(one[0] >> leapPlaces),
		Version:   int(one[0] >> versionPlaces & threeBits),
		Mode:      int(one[0] & threeBits),
		Stratum:   int(one[1]),
		Poll:      int(int8(one[2])),
		Precision: int(int8(one[3])),
		Delay:     stamp.FromShort(four[0]),
		Disp:      stamp.FromShort(four[1]),
		RefID:     four[2],
		Ref:       eight[0],
		Org:       eight[1],
		Rec:       eight[2],
		Xmt:       eight[3],
	}
}

func (r *reader) ext() api.Ext {
	kind := int(r.number(2))
	count := int(r.number(2)) - extHead
	r.ask(dataFits(count) && count <= len(r.rest), api.ErrForm)
	return api.Ext{Type: kind, Data: r.bytes(count)}
}

func headerFits(p api.Packet) bool {
	for _, n := range [...]int{p.Poll, p.Precision} {
		if !within(n, math.MinInt8, math.MaxInt8) {
			return false
		}
	}
	for _, d := range [...]api.Span{p.Delay, p.Disp} {
		if !within(d, 0, stamp.FromShort(math.MaxUint32)) {
			return false
		}
	}
	return within(p.Leap, api.LeapNone, api.LeapAlarm) && versionFits(p.Version) && modeFits(p.Mode) && within(p.Stratum, 0, maxByte)
}

func modeFits(mode int) bool {
	return within(mode, api.ModeActive, api.ModeBroadcast)
}

func extsFit(exts []api.Ext) bool {
	return !slices.ContainsFunc(exts, func(e api.Ext) bool {
		return !within(e.Type, 0, maxWord) || !dataFits(len(e.Data))
	})
}

func dataFits(count int) bool {
	return count >= minData && count%unit == 0
}

// size is how many bytes a packet would have.
func size(p api.Packet) int {
	total := headerSize + digestSize(p.KeyID, p.MAC)
	for _, e := range p.Exts {
		total += extHead + len(e.Data)
	}
	if p.Nak {
		total += keyBytes
	}
	return total
}
