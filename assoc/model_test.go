package assoc_test

import (
	"cmp"
	"math"
	"math/big"
	"slices"
	"strings"
	"testing"

	"foliot/api"
	"foliot/assoc"
)

const (
	least     = math.MinInt
	greatest  = math.MaxInt
	everybody = 1<<32 - 1
)

// The signatures that the chapter lists.
var (
	_ func(kind, mode int) int                                                                           = assoc.Dispatch
	_ func(c api.Config) (*assoc.Table, api.Errno)                                                       = assoc.New
	_ func(t *assoc.Table, a api.Assoc, parent, now int) (int, api.Errno)                                = (*assoc.Table).Add
	_ func(t *assoc.Table, id int) bool                                                                  = (*assoc.Table).Drop
	_ func(t *assoc.Table, id int) (assoc.Entry, bool)                                                   = (*assoc.Table).Get
	_ func(t *assoc.Table) []assoc.Entry                                                                 = (*assoc.Table).List
	_ func(t *assoc.Table, addr uint32) int                                                              = (*assoc.Table).Find
	_ func(t *assoc.Table, id, now int) bool                                                             = (*assoc.Table).Heard
	_ func(t *assoc.Table, now int) []int                                                                = (*assoc.Table).Expire
	_ func(t *assoc.Table, c api.Config, p api.Packet, from, to uint32, flags int, auth bool) (int, int) = (*assoc.Table).Route
	_ func(t *assoc.Table, action int, parent int, p api.Packet, from uint32, now int) (int, api.Errno)  = (*assoc.Table).Mobilise
	_ func(t *assoc.Table, id int) (int, bool)                                                           = (*assoc.Table).Hops
	_                                                                                                    = [...]int{assoc.None: 0, assoc.Answer: 1, assoc.Process: 2, assoc.Active: 3, assoc.Listen: 4, assoc.Found: 5, assoc.Manycast: 6}
)

// model says the promises by everything that was ever in the table.
type model struct{ ever []*life }

type life struct {
	number  int
	assoc   api.Assoc
	parent  *life
	ends    int
	dropped bool
	asked   int // how often Hops was called
}

// lives: who lost a parent is in the table no more.
func (l *life) lives() bool { return !l.dropped && (l.parent == nil || l.parent.lives()) }

func (l *life) entry() assoc.Entry {
	e := assoc.Entry{ID: l.number, Assoc: l.assoc, Ends: l.ends}
	if l.parent != nil {
		e.Parent = l.parent.number
	}
	return e
}

// living are all that live, by rising numbers.
func (m *model) living() []*life {
	var l []*life
	for _, x := range m.ever {
		if x.lives() {
			l = append(l, x)
		}
	}
	slices.SortFunc(l, func(a, b *life) int { return cmp.Compare(a.number, b.number) })
	return l
}

func (m *model) of(id int) *life {
	for _, l := range m.living() {
		if l.number == id {
			return l
		}
	}
	return nil
}

func (m *model) list() []assoc.Entry {
	var l []assoc.Entry
	for _, x := range m.living() {
		l = append(l, x.entry())
	}
	return l
}

func (m *model) find(addr uint32) int {
	for _, l := range m.living() {
		if l.assoc.Kind != api.KindClock && l.assoc.Addr == addr {
			return l.number
		}
	}
	return 0
}

// one is the namespace that an association's Addr is of, and the Addr.
func one(a api.Assoc) [2]uint32 {
	if a.Kind == api.KindClock {
		return [2]uint32{1, a.Addr}
	}
	return [2]uint32{0, a.Addr}
}

// laterThan says the chapter's LATER.
func laterThan(now int) int {
	sum := new(big.Int).Add(big.NewInt(int64(now)), big.NewInt(4096))
	if sum.Cmp(big.NewInt(greatest)) > 0 {
		return greatest
	}
	if sum.Sign() == 0 {
		return 1
	}
	return int(sum.Int64())
}

// add says P12.2.
func (m *model) add(a api.Assoc, parent, now int) (int, api.Errno) {
	if parent != 0 && m.of(parent) == nil {
		return 0, api.ErrNone
	}
	living := m.living()
	for _, l := range living {
		if one(l.assoc) == one(a) {
			return 0, api.ErrTwice
		}
	}
	if len(living) >= 16 {
		return 0, api.ErrFull
	}
	x := &life{number: 1, assoc: a}
	for m.of(x.number) != nil {
		x.number++
	}
	if parent != 0 {
		x.parent = m.of(parent)
	}
	if parent != 0 || slices.Contains([]int{api.KindPassive, api.KindListen}, a.Kind) {
		x.ends = laterThan(now)
	}
	m.ever = append(m.ever, x)
	return x.number, api.OK
}

func (m *model) expire(now int) []int {
	was := m.living()
	for _, l := range was {
		if l.ends != 0 && l.ends <= now {
			l.dropped = true
		}
	}
	var gone []int
	for _, l := range was {
		if !l.lives() {
			gone = append(gone, l.number)
		}
	}
	return gone
}

func (m *model) hops(id int) (int, bool) {
	l := m.of(id)
	if l == nil || l.assoc.Kind != api.KindManycast {
		return 0, false
	}
	hops := 1
	if l.assoc.TTL > 1 {
		hops = l.asked%l.assoc.TTL + 1
	}
	l.asked++
	return hops, true
}

// chapter is P12.5's table as it stands there.
const chapter = `mode | kind 0 | Server, Found | Pool, Manycast | Peer | Passive | Broadcast | Listen | Clock
ModeActive | Active | None | None | Process | Process | None | None | None
ModePassive | None | None | None | Process | None | None | None | None
ModeClient | Answer | Answer | Answer | Answer | Answer | Answer | Answer | Answer
ModeServer | Found | Process | Process | None | None | None | None | None
ModeBroadcast | Listen | None | None | None | None | None | Process | None`

var (
	kindNames = map[string]int{
		"kind 0": 0, "Server": 1, "Peer": 2, "Broadcast": 3, "Pool": 4, "Manycast": 5, "Clock": 6, "Passive": 7, "Listen": 8, "Found": 9,
	}
	modeNames   = map[string]int{"ModeActive": 1, "ModePassive": 2, "ModeClient": 3, "ModeServer": 4, "ModeBroadcast": 5}
	actionNames = map[string]int{"None": 0, "Answer": 1, "Process": 2, "Active": 3, "Listen": 4, "Found": 5}
)

// cell is a place of the chapter's table.
type cell struct{ kind, mode int }

// cells is the chapter's table, read once.
var cells = func() map[cell]int {
	l := map[cell]int{}
	lines := strings.Split(chapter, "\n")
	heads := strings.Split(lines[0], " | ")
	for _, line := range lines[1:] {
		for i, word := range strings.Split(line, " | ")[1:] {
			for _, kind := range strings.Split(heads[i+1], ", ") {
				l[cell{kindNames[kind], modeNames[strings.Split(line, " | ")[0]]}] = actionNames[word]
			}
		}
	}
	return l
}()

// packet is what Route is handed beside the table.
type packet struct {
	c        api.Config
	p        api.Packet
	from, to uint32
	flags    int
	auth     bool
}

func has(flags, flag int) bool { return flags&flag == flag }

func isGroup(addr uint32) bool { return addr >= 0xe0000000 && addr <= 0xefffffff }

// route says P12.6, all that makes it None ahead of all else.
func (m *model) route(k packet) (int, int) {
	n, kind, search := m.find(k.from), 0, 0
	if n != 0 {
		kind = m.of(n).assoc.Kind
	}
	for _, l := range m.living() {
		if search == 0 && (l.assoc.Kind == api.KindPool || l.assoc.Kind == api.KindManycast) {
			search = l.number
		}
	}
	odd := k.from == 0 || isGroup(k.from) || k.from == everybody
	barred := has(k.flags, 8) || has(k.flags, 16) && !k.auth || len(m.living()) == 16
	action := cells[cell{kind, k.p.Mode}]
	switch {
	case action == 2:
		return 2, n
	case action == 1 && (has(k.flags, 1) || odd), action == 3 && (barred || odd), action == 4 && (barred || !k.c.Listen), action == 5 && (barred || search == 0):
		return 0, 0
	case action == 1 && (isGroup(k.to) || k.to == everybody):
		if k.c.Manycast {
			return 6, 0
		}
		return 0, 0
	case action == 5:
		return 5, search
	}
	return action, 0
}

// mobilise says P12.7.
func (m *model) mobilise(action, parent int, p api.Packet, from uint32, now int) (int, api.Errno) {
	a := api.Assoc{Addr: from, Key: p.KeyID, MinPoll: p.Poll, MaxPoll: 10}
	if p.Poll < 3 {
		a.MinPoll = 3
	} else if p.Poll > 10 {
		a.MinPoll = 10
	}
	switch action {
	case 3:
		a.Kind = 7
	case 4:
		a.Kind = 8
	case 5:
		l := m.of(parent)
		if l == nil || l.assoc.Kind != 4 && l.assoc.Kind != 5 {
			return 0, api.ErrNone
		}
		a = api.Assoc{Kind: 9, Addr: from, Key: l.assoc.Key, MinPoll: l.assoc.MinPoll, MaxPoll: l.assoc.MaxPoll, Iburst: true}
		return m.add(a, parent, now)
	default:
		return 0, api.ErrArg
	}
	return m.add(a, 0, now)
}

// pair is a table beside what the promises say of it; each answer, and behind each call all that it tells, is held against them.
type pair struct {
	t *testing.T
	x *assoc.Table
	m *model
}

func pairOf(t *testing.T, l ...api.Assoc) *pair {
	t.Helper()
	x, err := assoc.New(api.Config{Assocs: l})
	if err != api.OK || x == nil {
		t.Fatalf("New of %+v is refused: %d", l, err)
	}
	m := &model{}
	for i, a := range l {
		m.ever = append(m.ever, &life{number: i + 1, assoc: a})
	}
	p := &pair{t, x, m}
	p.check()
	return p
}

func (p *pair) add(a api.Assoc, parent, now int) (int, api.Errno) {
	p.t.Helper()
	id, err := p.x.Add(a, parent, now)
	if n, e := p.m.add(a, parent, now); n != id || e != err {
		p.t.Fatalf("Add(%+v, %d, %d) is %d, %d, not %d, %d", a, parent, now, id, err, n, e)
	}
	p.check()
	return id, err
}

// added is the number of one that there is room for.
func (p *pair) added(a api.Assoc, parent, now int) int {
	p.t.Helper()
	id, err := p.add(a, parent, now)
	if err != api.OK {
		p.t.Fatalf("Add(%+v, %d, %d) is refused: %d", a, parent, now, err)
	}
	return id
}

func (p *pair) drop(id int) bool {
	p.t.Helper()
	is, l := p.x.Drop(id), p.m.of(id)
	if is != (l != nil) {
		p.t.Fatalf("Drop(%d) is %v", id, is)
	}
	if l != nil {
		l.dropped = true
	}
	p.check()
	return is
}

func (p *pair) heard(id, now int) bool {
	p.t.Helper()
	is, l := p.x.Heard(id, now), p.m.of(id)
	if is != (l != nil) {
		p.t.Fatalf("Heard(%d, %d) is %v", id, now, is)
	}
	if l != nil && l.ends != 0 {
		l.ends = laterThan(now)
	}
	p.check()
	return is
}

func (p *pair) expire(now int) []int {
	p.t.Helper()
	got := p.x.Expire(now)
	if want := p.m.expire(now); !slices.Equal(got, want) {
		p.t.Fatalf("Expire(%d) is %v, not %v", now, got, want)
	}
	p.check()
	return got
}

func (p *pair) hops(id int) (int, bool) {
	p.t.Helper()
	n, is := p.x.Hops(id)
	if m, has := p.m.hops(id); m != n || has != is {
		p.t.Fatalf("Hops(%d) is %d, %v, not %d, %v", id, n, is, m, has)
	}
	p.check()
	return n, is
}

func (p *pair) route(k packet) (int, int) {
	p.t.Helper()
	action, id := p.x.Route(k.c, k.p, k.from, k.to, k.flags, k.auth)
	if a, n := p.m.route(k); a != action || n != id {
		p.t.Fatalf("Route of %+v is %d, %d, not %d, %d", k, action, id, a, n)
	}
	return action, id
}

func (p *pair) mobilise(action, parent int, q api.Packet, from uint32, now int) (int, api.Errno) {
	p.t.Helper()
	id, err := p.x.Mobilise(action, parent, q, from, now)
	if n, e := p.m.mobilise(action, parent, q, from, now); n != id || e != err {
		p.t.Fatalf("Mobilise(%d, %d, %+v, %d, %d) is %d, %d, not %d, %d", action, parent, q, from, now, id, err, n, e)
	}
	p.check()
	return id, err
}

// check holds all that a table tells without being changed against the promises.
func (p *pair) check() {
	p.t.Helper()
	want := p.m.list()
	if got := p.x.List(); !slices.Equal(got, want) {
		p.t.Fatalf("List is\n%+v, not\n%+v", got, want)
	}
	if len(want) > 16 {
		p.t.Fatalf("there are %d", len(want))
	}
	for id := -1; id <= 18; id++ {
		var e assoc.Entry
		l := p.m.of(id)
		if l != nil {
			e = l.entry()
		}
		if got, is := p.x.Get(id); got != e || is != (l != nil) {
			p.t.Fatalf("Get(%d) is %+v, %v, not %+v", id, got, is, e)
		}
	}
	for _, e := range want {
		if got := p.x.Find(e.Assoc.Addr); got != p.m.find(e.Assoc.Addr) {
			p.t.Fatalf("Find(%d) is %d", e.Assoc.Addr, got)
		}
	}
}

// entry is that of a number that there is.
func (p *pair) entry(id int) assoc.Entry {
	p.t.Helper()
	e, is := p.x.Get(id)
	if !is {
		p.t.Fatalf("there is no %d", id)
	}
	return e
}

// numbers are those of all associations.
func (p *pair) numbers() []int {
	l := []int{}
	for _, e := range p.x.List() {
		l = append(l, e.ID)
	}
	return l
}

func (p *pair) has(want ...int) {
	p.t.Helper()
	if got := p.numbers(); !slices.Equal(got, want) && len(got)+len(want) > 0 {
		p.t.Fatalf("there are %v, not %v", got, want)
	}
}

func of(kind int, addr uint32) api.Assoc { return api.Assoc{Kind: kind, Addr: addr} }

func server(addr uint32) api.Assoc { return of(api.KindServer, addr) }

// servers have the addresses first, first + 1 and so on.
func servers(n int, first uint32) []api.Assoc {
	l := make([]api.Assoc, n)
	for i := range l {
		l[i] = server(first + uint32(i))
	}
	return l
}

// kinds are all that there are, and some that are none.
var kinds = []int{least, -1, 0, 1, 2, 3, 4, 5, 6, 7, 8, 9, 10, 16, greatest}

// noNumbers are none of any table.
var noNumbers = []int{least, -17, -16, -2, -1, 0, 17, 18, 32, 1 << 32, greatest}

// moments are seconds at whose LATER something changes, and some between them.
var moments = []struct{ now, later int }{
	{least, least + 4096}, {least + 1, least + 4097}, {-1 << 40, -1<<40 + 4096}, {-5000, -904},
	{-4098, -2}, {-4097, -1}, {-4096, 1}, {-4095, 1}, {-4094, 2}, {-1, 4095}, {0, 4096}, {1, 4097}, {100, 4196}, {1 << 40, 1<<40 + 4096},
	{greatest - 4098, greatest - 2}, {greatest - 4097, greatest - 1}, {greatest - 4096, greatest}, {greatest - 4095, greatest}, {greatest - 1, greatest}, {greatest, greatest},
}
