package auth

import (
	"bytes"
	"slices"

	"foliot/api"
	"foliot/wire"
)

// Table has keys, some of them trusted.
type Table struct{ held []heldKey }

type heldKey struct {
	key     api.Key
	trusted bool
}

func New(l []api.Key, trusted []int) (*Table, api.Errno) {
	if err := checkKeys(l); err != api.OK {
		return nil, err
	}
	t := &Table{}
	for _, k := range l {
		k.Bytes = bytes.Clone(k.Bytes)
		t.held = append(t.held, heldKey{k, slices.Contains(trusted, k.ID)})
	}
	return t, api.OK
}

// find answers what is held of an ID, and whether anything is.
func (t *Table) find(id int) (heldKey, bool) {
	for _, h := range t.held {
		if h.key.ID == id {
			return h, true
		}
	}
	return heldKey{}, false
}

func (t *Table) Trusts(id int) bool {
	h, _ := t.find(id)
	return h.trusted
}

func (t *Table) Sign(id int, b []byte) ([]byte, api.Errno) {
	h, found := t.find(id)
	if !found {
		return nil, api.ErrKey
	}
	return Digest(h.key, b)
}

func (t *Table) Verify(id int, b, mac []byte) api.Errno {
	if !t.Trusts(id) {
		return api.ErrKey
	}
	digest, err := t.Sign(id, b)
	if err == api.OK && !Same(digest, mac) {
		return api.ErrMAC
	}
	return err
}

func (t *Table) Seal(p api.Packet, id int) (api.Packet, api.Errno) {
	sealed := bare(p)
	if id == 0 {
		return sealed, api.OK
	}
	if _, found := t.find(id); !found {
		return api.Packet{}, api.ErrKey
	}
	message, err := wire.Message(sealed)
	if err != api.OK {
		return api.Packet{}, err
	}
	mac, err := t.Sign(id, message)
	if err != api.OK {
		return api.Packet{}, err
	}
	sealed.KeyID, sealed.MAC = id, mac
	return sealed, api.OK
}

func (t *Table) Opens(p api.Packet) api.Errno {
	if !t.Trusts(p.KeyID) {
		return api.ErrKey
	}
	message, err := wire.Message(p)
	if err != api.OK {
		return err
	}
	return t.Verify(p.KeyID, message, p.MAC)
}

// bare is the packet without key, Nak and digest, in memory of its own.
func bare(p api.Packet) api.Packet {
	p.KeyID, p.Nak, p.MAC = 0, false, nil
	p.Exts = slices.Clone(p.Exts)
	for i, x := range p.Exts {
		p.Exts[i].Data = bytes.Clone(x.Data)
	}
	return p
}
