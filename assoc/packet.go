package assoc

import "foliot/api"

// What a packet is for.
const (
	None     = 0 // nothing: it is thrown away
	Answer   = 1 // a request that is answered
	Process  = 2 // it belongs to an association
	Active   = 3 // it mobilises a symmetric passive one
	Listen   = 4 // it mobilises a broadcast client
	Found    = 5 // an answer that mobilises one of a pool, or of manycast
	Manycast = 6 // a request to the group that is answered
)

// Dispatch has a key for each kind and mode that are not for nothing.
func Dispatch(kind, mode int) int {
	actions := map[[2]int]int{
		{0, api.ModeActive}:               Active,
		{api.KindPeer, api.ModeActive}:    Process,
		{api.KindPassive, api.ModeActive}: Process,

		{api.KindPeer, api.ModePassive}: Process,

		{0, api.ModeClient}:                 Answer,
		{api.KindServer, api.ModeClient}:    Answer,
		{api.KindPeer, api.ModeClient}:      Answer,
		{api.KindBroadcast, api.ModeClient}: Answer,
		{api.KindPool, api.ModeClient}:      Answer,
		{api.KindManycast, api.ModeClient}:  Answer,
		{api.KindClock, api.ModeClient}:     Answer,
		{api.KindPassive, api.ModeClient}:   Answer,
		{api.KindListen, api.ModeClient}:    Answer,
		{api.KindFound, api.ModeClient}:     Answer,

		{0, api.ModeServer}:                Found,
		{api.KindServer, api.ModeServer}:   Process,
		{api.KindPool, api.ModeServer}:     Process,
		{api.KindManycast, api.ModeServer}: Process,
		{api.KindFound, api.ModeServer}:    Process,

		{0, api.ModeBroadcast}:              Listen,
		{api.KindListen, api.ModeBroadcast}: Process,
	}
	return actions[[2]int{kind, mode}]
}

func (t *Table) Route(c api.Config, p api.Packet, from, to uint32, flags int, auth bool) (int, int) {
	id, kind := t.Find(from), 0
	if m := t.at(id); m != nil {
		kind = m.Assoc.Kind
	}
	mobilises := t.mayMobilise(flags, auth)
	switch Dispatch(kind, p.Mode) {
	case Process:
		return Process, id
	case Answer:
		return answers(c, from, to, flags), 0
	case Active:
		if mobilises && isSingle(from) {
			return Active, 0
		}
	case Listen:
		if mobilises && c.Listen {
			return Listen, 0
		}
	case Found:
		if search := t.search(); mobilises && search != 0 {
			return Found, search
		}
	}
	return None, 0
}

// answers is what becomes of a request.
func answers(c api.Config, from, to uint32, flags int) int {
	switch {
	case flags&api.NoServe != 0, !isSingle(from):
		return None
	case !isMany(to):
		return Answer
	case c.Manycast:
		return Manycast
	}
	return None
}

func (t *Table) mayMobilise(flags int, auth bool) bool {
	trusted := auth || flags&api.NoTrust == 0
	return trusted && flags&api.NoPeer == 0 && t.free() != 0
}

// isMany: a group, or everybody.
func isMany(addr uint32) bool {
	const everybody = 1<<32 - 1
	high := addr >> 24
	return 224 <= high && high <= 239 || addr == everybody
}

// isSingle: whoever can be answered.
func isSingle(addr uint32) bool { return addr != 0 && !isMany(addr) }

// search is the number of the first search; 0, if there is none.
func (t *Table) search() int {
	for _, m := range t.places {
		if m != nil && isSearch(m.Assoc) {
			return m.ID
		}
	}
	return 0
}

func isSearch(a api.Assoc) bool {
	return a.Kind == api.KindPool || a.Kind == api.KindManycast
}

func (t *Table) Mobilise(action int, parent int, p api.Packet, from uint32, now int) (int, api.Errno) {
	switch action {
	case Active:
		return t.Add(toldBy(p, from, api.KindPassive), 0, now)
	case Listen:
		return t.Add(toldBy(p, from, api.KindListen), 0, now)
	case Found:
		m := t.at(parent)
		if m == nil || !isSearch(m.Assoc) {
			return 0, api.ErrNone
		}
		return t.Add(foundBy(m.Assoc, from), parent, now)
	}
	return 0, api.ErrArg
}

// toldBy is an association of that kind, as its first packet asks for.
func toldBy(p api.Packet, from uint32, kind int) api.Assoc {
	return api.Assoc{
		Kind:    kind,
		Addr:    from,
		Key:     p.KeyID,
		MinPoll: min(max(p.Poll, api.MinPoll), api.MaxPoll),
		MaxPoll: api.MaxPoll,
	}
}

// foundBy is an association as its search was configured: who answers has no say in it.
func foundBy(search api.Assoc, from uint32) api.Assoc {
	return api.Assoc{
		Kind:    api.KindFound,
		Addr:    from,
		Key:     search.Key,
		MinPoll: search.MinPoll,
		MaxPoll: search.MaxPoll,
		Iburst:  true,
	}
}
