package restrict

import (
	"cmp"
	"math"
	"slices"

	"foliot/api"
)

// What becomes of a packet.
const (
	Pass = 0
	Drop = 1
	Kiss = 2 // it is answered by a kiss-o'-death
)

const (
	maxAverage = 10
	maxMinimum = 1024
	maxCosts   = 8 // how many packets' costs a score holds at most
	maxCount   = 1<<31 - 1
)

// Entry is an address that is remembered: when it was heard first and last, how often, and its score.
type Entry struct {
	Addr        uint32
	First, Last int
	Count       int
	Score       int
}

// sender is an entry with the turn of its last packet: several packets may have one time, none of them has another's turn.
type sender struct {
	Entry
	turn int
}

// Memory remembers the addresses that were heard of late.
type Memory struct {
	cost, minimum int
	now           int // the greatest time that was told
	turns         int // how many packets came
	senders       []sender
}

func New(average, minimum int) (*Memory, api.Errno) {
	if average < 0 || average > maxAverage || minimum < 0 || minimum > maxMinimum {
		return nil, api.ErrArg
	}
	return &Memory{cost: 1 << average, minimum: minimum, now: math.MinInt}, api.OK
}

func (m *Memory) Heard(addr uint32, now, flags int) int {
	m.now = max(m.now, now)
	m.turns++
	i := m.indexOf(addr)
	if i < 0 {
		m.remember(addr)
		return Pass
	}
	return m.hearAgain(&m.senders[i], flags)
}

func (m *Memory) indexOf(addr uint32) int {
	return slices.IndexFunc(m.senders, func(s sender) bool { return s.Addr == addr })
}

func (m *Memory) remember(addr uint32) {
	s := sender{turn: m.turns}
	s.Addr, s.First, s.Last, s.Count, s.Score = addr, m.now, m.now, 1, m.cost
	if len(m.senders) < api.MaxMRU {
		m.senders = append(m.senders, s)
		return
	}
	m.senders[m.indexOfOldest()] = s
}

func (m *Memory) indexOfOldest() int {
	oldest := 0
	for i, s := range m.senders {
		if s.turn < m.senders[oldest].turn {
			oldest = i
		}
	}
	return oldest
}

func (m *Memory) hearAgain(s *sender, flags int) int {
	// Two ints may be further apart than the greatest int, but not than the greatest uint.
	gap := uint(m.now) - uint(s.Last)
	s.Score -= int(min(gap, uint(s.Score)))
	s.Last, s.turn = m.now, m.turns
	if s.Count < maxCount {
		s.Count++
	}
	verdict := m.judge(s.Score, gap, flags)
	if verdict == Pass {
		s.Score = min(s.Score+m.cost, m.most())
	}
	return verdict
}

func (m *Memory) judge(score int, gap uint, flags int) int {
	switch {
	case flags&api.Limited == 0:
		return Pass
	case gap < uint(m.minimum):
		return Drop
	case score+m.cost <= m.most():
		return Pass
	case flags&api.Kod != 0:
		return Kiss
	}
	return Drop
}

func (m *Memory) most() int {
	return maxCosts * m.cost
}

func (m *Memory) List() []Entry {
	latestFirst := slices.Clone(m.senders)
	slices.SortFunc(latestFirst, func(a, b sender) int { return cmp.Compare(b.turn, a.turn) })
	var entries []Entry
	for _, s := range latestFirst {
		entries = append(entries, s.Entry)
	}
	return entries
}

func (m *Memory) Find(addr uint32) (Entry, bool) {
	i := m.indexOf(addr)
	if i < 0 {
		return Entry{}, false
	}
	return m.senders[i].Entry, true
}
