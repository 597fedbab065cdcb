package conf_test

import (
	"fmt"
	"reflect"
	"slices"
	"strings"
	"testing"

	"foliot/api"
	"foliot/conf"
)

func sorted(l []string) []string {
	slices.Sort(l)
	return l
}

// P5.6: one of everything.
func TestPrintWhole(t *testing.T) {
	want := `key 5 sha256 00ff
key 65535 cmac 30313233343536373839616263646566
key 1 sha256 3031323334353637383961626364656630313233343536373839616263646566
server 10.0.0.1 key 5 minpoll 4 maxpoll 9 burst iburst prefer
peer 10.0.0.2 minpoll 6 maxpoll 10
broadcast 224.0.1.1 minpoll 6 maxpoll 6 ttl 127
pool 10.0.0.3 key 65535 minpoll 3 maxpoll 10
manycastclient 239.255.255.255 minpoll 10 maxpoll 10 ttl 1
refclock pps 0 prefer stratum 15 fudge -5
refclock nmea 3 stratum 0 fudge 0
broadcastclient
manycastserver
trustedkey 65535 5
controlkey 1
restrict 0.0.0.0/0 limited kod
restrict 10.0.0.0/8
restrict 10.0.0.0/32 noserve noquery nomodify nopeer notrust limited kod ignore
driftfile drift.1_z
statistics peer loop
orphan 7
step 128
panic 1000
stepout 300
average 3
minimum 2
`
	if got, err := conf.Print(whole()); got != want || err != api.OK {
		t.Errorf("Print of the whole is %q, %v, not %q", got, err, want)
	}
	const numbers = "orphan 0\nstep 128\npanic 1000\nstepout 300\naverage 3\nminimum 2\n"
	if got, err := conf.Print(conf.Default()); got != numbers || err != api.OK {
		t.Errorf("Print of Default is %q, %v, not %q", got, err, numbers)
	}
}

// P5.6: Check's errors.
func TestPrintChecks(t *testing.T) {
	r := draws(6)
	for range 5000 {
		c := spoilt(r, drawnConfig(r))
		want := conf.Check(c)
		if got, err := conf.Print(c); err != want || (got == "") != (err != api.OK) {
			t.Fatalf("Print of %+v is %q, %v, not %v", c, got, err, want)
		}
	}
	if got, err := conf.Print(api.Config{}); got != "" || err != api.ErrNumber {
		t.Errorf("Print of an empty one is %q, %v, not ErrNumber", got, err)
	}
}

// filled has as many rules and servers as are asked for, each rule with flags.
func filled(servers, rules, flags int) api.Config {
	c := conf.Default()
	for i := range servers {
		c.Assocs = append(c.Assocs, server(uint32(i+1)))
	}
	for i := range rules {
		c.Rules = append(c.Rules, api.Rule{Addr: uint32(i), Bits: 32, Flags: flags})
	}
	return c
}

func holdPrint(t *testing.T, call string, c api.Config, wrong api.Errno) string {
	t.Helper()
	got, err := conf.Print(c)
	if err != wrong || (got == "") != (wrong != api.OK) {
		t.Errorf("Print of %s is %q, %v, not %v", call, got, err, wrong)
	}
	return got
}

// P5.6: how many lines, how many bytes.
func TestPrintLimits(t *testing.T) {
	c := filled(16, 32, 0)
	for i := range 10 {
		c.Keys = append(c.Keys, api.Key{ID: i + 1, Kind: api.KeySHA, Bytes: []byte{1}})
	}
	if got := holdPrint(t, "64 lines", c, api.OK); strings.Count(got, "\n") != 64 {
		t.Errorf("there are %d lines, not 64", strings.Count(got, "\n"))
	}
	more := copied(c)
	more.Listen = true
	holdPrint(t, "65 lines", more, api.ErrMany)
	for i := range more.Rules {
		more.Rules[i].Flags = 255
	}
	for i := range more.Keys {
		more.Keys[i].Bytes = make([]byte, 32)
	}
	for i := range more.Assocs {
		more.Assocs[i].Burst, more.Assocs[i].Iburst, more.Assocs[i].Prefer = true, true, true
	}
	holdPrint(t, "65 lines of too many bytes", more, api.ErrMany)
	more.Listen = false
	holdPrint(t, "64 lines of too many bytes", more, api.ErrLong)

	// A key is shortened, till the drift file's name fills up what is missing to MaxConf bytes.
	c = filled(0, 32, 255)
	for i := range c.Rules {
		c.Rules[i].Addr += 100<<24 | 100<<16 | 100<<8 | 100
		if i < 15 {
			c.Keys = append(c.Keys, api.Key{ID: 10000 + i, Kind: api.KeySHA, Bytes: make([]byte, 32)})
		}
	}
	c.Drift = "d"
	for len(printed(c)) > api.MaxConf {
		c.Keys[0].Bytes = c.Keys[0].Bytes[1:]
	}
	c.Drift = strings.Repeat("d", 1+api.MaxConf-len(printed(c)))
	if got := holdPrint(t, "4096 bytes", c, api.OK); len(got) != api.MaxConf {
		t.Errorf("there are %d bytes, not 4096", len(got))
	}
	holdReadBack(t, c)
	c.Drift += "d"
	holdPrint(t, "4097 bytes", c, api.ErrLong)
}

// printed is what P5.6 says, by the library's forms.
func printed(c api.Config) string {
	var b strings.Builder
	when := func(ok bool, form string, list ...any) {
		if ok {
			fmt.Fprintf(&b, form, list...)
		}
	}
	address := func(a uint32) string { return fmt.Sprintf("%d.%d.%d.%d", a>>24, a>>16&255, a>>8&255, a&255) }
	for _, k := range c.Keys {
		fmt.Fprintf(&b, "key %d %s %x\n", k.ID, []string{"", "sha256", "cmac"}[k.Kind], k.Bytes)
	}
	for _, a := range c.Assocs {
		if a.Kind == api.KindClock {
			fmt.Fprintf(&b, "refclock %s %d", map[bool]string{true: "pps", false: "nmea"}[a.Pulse], a.Addr)
			when(a.Prefer, " prefer")
			fmt.Fprintf(&b, " stratum %d fudge %d\n", a.Stratum, isThousandths[a.Fudge])
			continue
		}
		fmt.Fprintf(&b, "%s %s", []string{"", "server", "peer", "broadcast", "pool", "manycastclient"}[a.Kind], address(a.Addr))
		when(a.Key != 0, " key %d", a.Key)
		fmt.Fprintf(&b, " minpoll %d maxpoll %d", a.MinPoll, a.MaxPoll)
		when(a.Burst, " burst")
		when(a.Iburst, " iburst")
		when(a.Prefer, " prefer")
		when(a.TTL != 0, " ttl %d", a.TTL)
		b.WriteString("\n")
	}
	when(c.Listen, "broadcastclient\n")
	when(c.Manycast, "manycastserver\n")
	when(len(c.Trusted) > 0, "trustedkey %s\n", strings.Trim(fmt.Sprint(c.Trusted), "[]"))
	when(c.Control != 0, "controlkey %d\n", c.Control)
	for _, r := range c.Rules {
		fmt.Fprintf(&b, "restrict %s/%d", address(r.Addr), r.Bits)
		for i, flag := range []string{"noserve", "noquery", "nomodify", "nopeer", "notrust", "limited", "kod", "ignore"} {
			when(r.Flags&(1<<i) != 0, " %s", flag)
		}
		b.WriteString("\n")
	}
	when(c.Drift != "", "driftfile %s\n", c.Drift)
	when(len(c.Stats) > 0, "statistics %s\n", strings.Trim(fmt.Sprint(c.Stats), "[]"))
	fmt.Fprintf(&b, "orphan %d\nstep %d\npanic %d\nstepout %d\naverage %d\nminimum %d\n", c.Orphan, isThousandths[c.Step], c.Panic/api.Second, c.Stepout, c.Average, c.Minimum)
	return b.String()
}

// holdReadBack holds P5.7 of a configuration that may be: what is printed is read back as it was.
func holdReadBack(t *testing.T, c api.Config) {
	t.Helper()
	before := copied(c)
	text, err := conf.Print(c)
	if err != api.OK {
		t.Fatalf("Print of %+v is %v", c, err)
	}
	if !reflect.DeepEqual(c, before) {
		t.Fatalf("Print changed %+v to %+v", before, c)
	}
	read, n, err := conf.Parse(text)
	if err != api.OK || n != 0 || !same(read, c) {
		t.Fatalf("Parse of %q is %+v, %d, %v, not %+v", text, read, n, err, c)
	}
	if again, err := conf.Print(read); err != api.OK || again != text {
		t.Fatalf("Print of %+v is %q, %v, not %q", read, again, err, text)
	}
}

// P5.6 and P5.7 of drawn configurations.
func TestPrintOfDrawnConfigs(t *testing.T) {
	r := draws(7)
	right := 0
	for range 20000 {
		c := drawnConfig(r)
		if conf.Check(c) != api.OK {
			continue
		}
		right++
		if got, err := conf.Print(c); err != api.OK || got != printed(c) {
			t.Fatalf("Print of %+v is %q, %v, not %q", c, got, err, printed(c))
		}
		holdReadBack(t, c)
	}
	if right < 10000 {
		t.Errorf("%d configurations only might be", right)
	}
	holdReadBack(t, whole())
}

// P5.7: each number of thousandths and of seconds is read back as it was.
func TestSpansAreReadBack(t *testing.T) {
	for m := 1; m <= 10000; m++ {
		c := conf.Default()
		c.Step, c.Panic = thousandths(m), api.Span(10*m)*api.Second
		if m <= 2000 {
			c.Assocs = []api.Assoc{{Kind: api.KindClock, MinPoll: 3, MaxPoll: 3, Fudge: thousandths(m - 1000)}}
		}
		text, err := conf.Print(c)
		if err != api.OK || text != printed(c) {
			t.Fatalf("Print of %+v is %q, %v", c, text, err)
		}
		if read, n, err := conf.Parse(text); err != api.OK || n != 0 || !same(read, c) {
			t.Fatalf("Parse of %q is %+v, %d, %v, not %+v", text, read, n, err, c)
		}
	}
}

// P5.7: what Parse tells, printed, parsed and printed again, is the same.
func TestTextsAreReadBack(t *testing.T) {
	r := draws(8)
	right := 0
	for range 20000 {
		var lines []string
		for range 1 + r.IntN(4) {
			lines = append(lines, strings.Join(drawnLine(r), " "))
		}
		c, _, err := conf.Parse(strings.Join(lines, "\n"))
		if err == api.OK {
			right++
			holdReadBack(t, c)
		}
	}
	if right < 500 {
		t.Errorf("%d texts only were right", right)
	}
}

// R3: what comes out is the caller's, with its spare room; what is handed in is not kept.
func TestConfigsAreNew(t *testing.T) {
	text, _ := conf.Print(whole())
	first, _, _ := conf.Parse(text)
	second, _, _ := conf.Parse(text)
	wipe(first)
	if !same(second, whole()) {
		t.Errorf("two configurations share memory: %+v", second)
	}
	for i := range second.Keys {
		rest := second.Keys[i].Bytes
		rest = rest[:cap(rest)]
		kept := copied(second)
		for j := range rest {
			rest[j]++
		}
		for k := range second.Keys {
			if k != i && !slices.Equal(second.Keys[k].Bytes, kept.Keys[k].Bytes) {
				t.Errorf("the keys %d and %d share memory", i, k)
			}
		}
	}
	a, b := conf.Default(), conf.Default()
	wipe(a)
	if !same(b, conf.Default()) {
		t.Errorf("two defaults share memory")
	}
}

func wipe(c api.Config) {
	for _, k := range c.Keys {
		clear(k.Bytes[:cap(k.Bytes)])
	}
	clear(c.Keys[:cap(c.Keys)])
	clear(c.Assocs[:cap(c.Assocs)])
	clear(c.Trusted[:cap(c.Trusted)])
	clear(c.Rules[:cap(c.Rules)])
	clear(c.Stats[:cap(c.Stats)])
}

// R3: what lies behind a list's length stays as it is.
func TestSpareRoomStays(t *testing.T) {
	full := whole()
	cut := copied(full)
	cut.Assocs, cut.Keys, cut.Trusted, cut.Rules, cut.Stats = cut.Assocs[:2], cut.Keys[:2], cut.Trusted[:1], cut.Rules[:1], cut.Stats[:1]
	cut.Control = 0
	cut.Keys[0].Bytes = cut.Keys[0].Bytes[:1]
	if _, err := conf.Print(cut); err != api.OK {
		t.Fatalf("Print is %v", err)
	}
	cut.Assocs, cut.Keys, cut.Trusted, cut.Rules, cut.Stats = cut.Assocs[:7], cut.Keys[:3], cut.Trusted[:2], cut.Rules[:3], cut.Stats[:2]
	cut.Control = full.Control
	cut.Keys[0].Bytes = cut.Keys[0].Bytes[:2]
	if !same(cut, full) {
		t.Errorf("Print changed what lies behind: %+v", cut)
	}
}
