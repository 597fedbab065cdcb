package conf_test

import (
	"encoding/hex"
	"math"
	"math/rand/v2"
	"regexp"
	"strconv"
	"strings"
	"testing"

	"foliot/api"
	"foliot/conf"
)

// holdRead holds that s says what was done to the default.
func holdRead(t *testing.T, s string, say func(*api.Config)) {
	t.Helper()
	want := conf.Default()
	say(&want)
	if got, n, err := conf.Parse(s); err != api.OK || n != 0 || !same(got, want) {
		t.Errorf("Parse of %q is %+v, %d, %v, not %+v", s, got, n, err, want)
	}
}

// holdWrong holds that s is wrong in that line, or as a whole (0).
func holdWrong(t *testing.T, s string, line int, wrong api.Errno) {
	t.Helper()
	if got, n, err := conf.Parse(s); err != wrong || n != line || !same(got, api.Config{}) {
		t.Errorf("Parse of %q is %+v, %d, %v, not %d, %v", s, got, n, err, line, wrong)
	}
}

func nothing(*api.Config) {}

func one(a api.Assoc) func(*api.Config) {
	return func(c *api.Config) { c.Assocs = []api.Assoc{a} }
}

func server(address uint32) api.Assoc {
	return api.Assoc{Kind: api.KindServer, Addr: address, MinPoll: 6, MaxPoll: 10}
}

// P5.5: the chapter's examples.
func TestParseExamples(t *testing.T) {
	a := server(0x0A000001)
	a.Iburst = true
	holdRead(t, "server 10.0.0.1 iburst # a", one(a))
	holdWrong(t, "server 10.0.0.1 key 3", 0, api.ErrNumber)
	holdWrong(t, "server 10.0.0.1 burst burst", 1, api.ErrTwice)
	holdWrong(t, "server", 1, api.ErrToken)
	holdWrong(t, "serve 10.0.0.1", 1, api.ErrToken)
	holdWrong(t, "server 10.0.0.256", 1, api.ErrAddr)
	holdWrong(t, "server 10.0.0.1 minpoll 07", 1, api.ErrNumber)
	holdRead(t, "restrict default kod limited\nrestrict 10.0.0.0/8", func(c *api.Config) {
		c.Rules = []api.Rule{{Flags: 96}, {Addr: 10 << 24, Bits: 8}}
	})
	holdRead(t, "refclock pps 0 fudge -5", one(api.Assoc{Kind: api.KindClock, MinPoll: 3, MaxPoll: 3, Pulse: true, Fudge: -21474837}))
}

// P5.5: lines without words, remarks, blanks and tabs, line feeds.
func TestParseLines(t *testing.T) {
	for _, s := range []string{"", "\n", "\n\n", "#", "# server\n", " \t\n\t#\x00\xff", "\n\n\n\n"} {
		holdRead(t, s, nothing)
	}
	for _, s := range []string{
		"server 10.0.0.1", "server 10.0.0.1\n", "\nserver 10.0.0.1", "\n\nserver 10.0.0.1\n\n", " server 10.0.0.1", "\tserver\t10.0.0.1\t", "server  \t 10.0.0.1 \n# a", "server 10.0.0.1#x\n", "server 10.0.0.1 # server",
	} {
		holdRead(t, s, one(server(0x0A000001)))
	}
	for _, s := range []string{"\r\n", "server 10.0.0.1\r\n", "server\v10.0.0.1", "server 10.0.0.1\x00", "server 10.0.0.1 \x7f", "\x1f", "\x80", "server\u00a010.0.0.1", "é"} {
		holdWrong(t, s, 1, api.ErrToken)
		holdWrong(t, "\n# a\n"+s, 3, api.ErrToken)
		holdWrong(t, "orphan 1\n"+s+"\nserve", 2, api.ErrToken)
		holdRead(t, "#"+strings.ReplaceAll(s, "\n", ""), nothing)
	}
	// The bytes of a line come ahead of its words.
	holdWrong(t, "server 10.0.0.256 \x01", 1, api.ErrToken)
	holdWrong(t, "server 10.0.0.1 burst burst\x01", 1, api.ErrToken)
	holdWrong(t, "server 10.0.0.256 #\x01", 1, api.ErrAddr)
	// The first wrong line counts.
	holdWrong(t, "server 10.0.0.256\n\x01", 1, api.ErrAddr)
	holdWrong(t, "orphan 1\n\n#\norphan x\nserver 1\n", 4, api.ErrTwice)
	holdWrong(t, "orphan x\norphan 1\norphan 2", 1, api.ErrNumber)
}

// P5.5: how many bytes, how many lines.
func TestParseLimits(t *testing.T) {
	const line = "orphan 5 #"
	fill := func(n int) string { return line + strings.Repeat("x", n-len(line)) }
	orphan := func(c *api.Config) { c.Orphan = 5 }
	holdRead(t, fill(4095), orphan)
	holdRead(t, fill(4096), orphan)
	holdRead(t, fill(4095)+"\n", orphan)
	holdWrong(t, fill(4097), 0, api.ErrLong)
	holdWrong(t, fill(4096)+"\n", 0, api.ErrLong)
	holdWrong(t, strings.Repeat("x", 4097), 0, api.ErrLong)
	holdWrong(t, strings.Repeat("x", 4096), 1, api.ErrToken)
	holdWrong(t, strings.Repeat("\n", 4096), 0, api.ErrMany)
	holdWrong(t, strings.Repeat("\n", 4097), 0, api.ErrLong)
	holdWrong(t, "\x01"+strings.Repeat("\n", 70), 0, api.ErrMany)

	holdRead(t, strings.Repeat("\n", 63)+line, orphan)
	holdRead(t, strings.Repeat("\n", 63)+line+"\n", orphan)
	holdRead(t, line+strings.Repeat("\n", 64), orphan)
	holdRead(t, strings.Repeat("#\n", 64), nothing)
	holdWrong(t, strings.Repeat("\n", 64)+line, 0, api.ErrMany)
	holdWrong(t, strings.Repeat("\n", 64)+line+"\n", 0, api.ErrMany)
	holdWrong(t, strings.Repeat("\n", 64)+" ", 0, api.ErrMany)
	holdWrong(t, line+strings.Repeat("\n", 65), 0, api.ErrMany)
	holdWrong(t, "serve\n"+strings.Repeat("#\n", 64), 0, api.ErrMany)
	holdWrong(t, strings.Repeat("\n", 63)+"serve", 64, api.ErrToken)
	holdWrong(t, strings.Repeat("\n", 63)+"serve\n", 64, api.ErrToken)
}

// P5.5: what associations and their options say.
func TestParseAssocs(t *testing.T) {
	const key = "key 5 sha256 00ff\n"
	for word, kind := range map[string]int{"server": api.KindServer, "peer": api.KindPeer, "pool": api.KindPool, "broadcast": api.KindBroadcast, "manycastclient": api.KindManycast} {
		base := api.Assoc{Kind: kind, Addr: 0x0A010203, MinPoll: 6, MaxPoll: 10}
		head := word + " 10.1.2.3"
		if kind == api.KindBroadcast || kind == api.KindManycast {
			head = word + " 224.0.1.1"
			base.Addr, base.TTL = 0xE0000101, 1
		}
		options := map[string]func(*api.Assoc){
			"":          func(a *api.Assoc) {},
			"key 5":     func(a *api.Assoc) { a.Key = 5 },
			"key 0":     func(a *api.Assoc) {},
			"minpoll 3": func(a *api.Assoc) { a.MinPoll = 3 },
			"maxpoll 9": func(a *api.Assoc) { a.MaxPoll = 9 },
			"maxpoll 5 minpoll 4": func(a *api.Assoc) {
				a.MinPoll, a.MaxPoll = 4, 5
			},
			"burst":   func(a *api.Assoc) { a.Burst = true },
			"iburst":  func(a *api.Assoc) { a.Iburst = true },
			"prefer":  func(a *api.Assoc) { a.Prefer = true },
			"ttl 7":   func(a *api.Assoc) { a.TTL = 7 },
			"ttl 255": func(a *api.Assoc) { a.TTL = 255 },
		}
		for text, do := range options {
			line := head + " " + text
			may := !strings.Contains(text, "ttl") && (!strings.Contains(text, "burst") && text != "prefer" || kind <= api.KindPeer) || strings.Contains(text, "ttl") && base.TTL == 1
			if !may {
				holdWrong(t, key+line, 2, api.ErrToken)
				continue
			}
			want := base
			do(&want)
			holdRead(t, key+line, func(c *api.Config) {
				c.Keys = []api.Key{{ID: 5, Kind: api.KeySHA, Bytes: []byte{0, 255}}}
				c.Assocs = []api.Assoc{want}
			})
		}
		for text, wrong := range map[string]api.Errno{
			"key": api.ErrToken, "minpoll": api.ErrToken, "maxpoll": api.ErrToken,
			"key x": api.ErrNumber, "minpoll x": api.ErrNumber, "maxpoll -3": api.ErrNumber, "minpoll 03": api.ErrNumber, "maxpoll 10000000000": api.ErrNumber, "key burst": api.ErrNumber,
			"minpoll 6 minpoll 6": api.ErrTwice, "maxpoll 6 maxpoll 7": api.ErrTwice, "key 5 key 5": api.ErrTwice, "key 5 key": api.ErrTwice, "key 5 key x": api.ErrTwice, "key 5 minpoll 6 key": api.ErrTwice,
			"x": api.ErrToken, "5": api.ErrToken, "KEY 5": api.ErrToken, "stratum 3": api.ErrToken, "fudge 3": api.ErrToken, "key 5 x": api.ErrToken, "minpoll 6 7": api.ErrToken, "key x minpoll": api.ErrNumber, "minpoll 6 x key": api.ErrToken, "noserve": api.ErrToken,
		} {
			holdWrong(t, "\n"+head+" "+text, 2, wrong)
		}
		holdWrong(t, word, 1, api.ErrToken)
		holdWrong(t, word+" # 10.0.0.1", 1, api.ErrToken)
		for _, text := range []string{"x", "10.0.0", "10.0.0.1.1", "10.0.0.1/32", "default", "key", "1 0.0.0.0", "10.0.0.01"} {
			holdWrong(t, word+" "+text, 1, api.ErrAddr)
			holdWrong(t, word+" "+text+" x x minpoll", 1, api.ErrAddr)
		}
	}
	all := server(1)
	all.Key, all.MinPoll, all.MaxPoll, all.Burst, all.Iburst, all.Prefer = 5, 3, 4, true, true, true
	holdRead(t, "server 0.0.0.1 prefer maxpoll 4 burst key 5 iburst minpoll 3\n"+key, func(c *api.Config) {
		c.Keys = []api.Key{{ID: 5, Kind: api.KeySHA, Bytes: []byte{0, 255}}}
		c.Assocs = []api.Assoc{all}
	})
	for _, option := range []string{"burst", "iburst", "prefer"} {
		holdWrong(t, "peer 10.0.0.1 "+option+" minpoll 6 "+option, 1, api.ErrTwice)
	}
	holdWrong(t, "broadcast 224.0.1.1 ttl 3 ttl", 1, api.ErrTwice)
	holdWrong(t, "broadcast 224.0.1.1 ttl", 1, api.ErrToken)
	holdWrong(t, "manycastclient 224.0.1.1 ttl 01", 1, api.ErrNumber)
	holdRead(t, "peer 0.0.0.2\nserver 0.0.0.1\npool 0.0.0.3", func(c *api.Config) {
		c.Assocs = []api.Assoc{{Kind: 2, Addr: 2, MinPoll: 6, MaxPoll: 10}, {Kind: 1, Addr: 1, MinPoll: 6, MaxPoll: 10}, {Kind: 4, Addr: 3, MinPoll: 6, MaxPoll: 10}}
	})
}

// P5.5: clocks.
func TestParseClocks(t *testing.T) {
	for word, pulse := range map[string]bool{"nmea": false, "pps": true} {
		base := api.Assoc{Kind: api.KindClock, Addr: 3, MinPoll: 3, MaxPoll: 3, Pulse: pulse}
		for text, do := range map[string]func(*api.Assoc){
			"":                            func(a *api.Assoc) {},
			"prefer":                      func(a *api.Assoc) { a.Prefer = true },
			"stratum 0":                   func(a *api.Assoc) {},
			"stratum 15":                  func(a *api.Assoc) { a.Stratum = 15 },
			"fudge 0":                     func(a *api.Assoc) {},
			"fudge 1":                     func(a *api.Assoc) { a.Fudge = 4294967 },
			"fudge -1":                    func(a *api.Assoc) { a.Fudge = -4294968 },
			"fudge 1000":                  func(a *api.Assoc) { a.Fudge = api.Second },
			"fudge -1000":                 func(a *api.Assoc) { a.Fudge = -api.Second },
			"fudge -5 prefer stratum 2":   func(a *api.Assoc) { a.Fudge, a.Prefer, a.Stratum = -21474837, true, 2 },
			"stratum 2 fudge 500 prefer ": func(a *api.Assoc) { a.Fudge, a.Prefer, a.Stratum = api.Second/2, true, 2 },
		} {
			want := base
			do(&want)
			holdRead(t, "refclock "+word+" 3 "+text, one(want))
		}
		for text, wrong := range map[string]api.Errno{
			"": api.ErrToken, "x": api.ErrNumber, "-1": api.ErrNumber, "00": api.ErrNumber, "prefer": api.ErrNumber, "10000000000": api.ErrNumber,
			"0 x": api.ErrToken, "0 0": api.ErrToken, "0 burst": api.ErrToken, "0 key 5": api.ErrToken, "0 minpoll 3": api.ErrToken, "0 ttl 1": api.ErrToken,
			"0 stratum": api.ErrToken, "0 fudge": api.ErrToken, "0 stratum x": api.ErrNumber, "0 stratum -1": api.ErrNumber, "0 fudge x": api.ErrNumber,
			"0 fudge -": api.ErrNumber, "0 fudge -0": api.ErrNumber, "0 fudge 00": api.ErrNumber, "0 fudge -05": api.ErrNumber, "0 fudge 05": api.ErrNumber, "0 fudge +5": api.ErrNumber, "0 fudge --5": api.ErrNumber, "0 fudge 5-": api.ErrNumber, "0 fudge -10000000000": api.ErrNumber, "0 fudge 10000000000": api.ErrNumber,
			"0 prefer prefer": api.ErrTwice, "0 stratum 1 stratum": api.ErrTwice, "0 fudge 1 fudge 1": api.ErrTwice, "0 fudge 1 stratum 1 fudge x": api.ErrTwice, "0 fudge -0 fudge": api.ErrNumber,
		} {
			holdWrong(t, "refclock "+word+" "+text, 1, wrong)
		}
		for _, text := range []string{"4", "255", "4294967295", "4294967296", "4294967297", "9999999999", "0 stratum 16", "0 stratum 9999999999", "0 fudge 1001", "0 fudge -1001", "0 fudge 9999999999", "0 fudge -9999999999"} {
			holdWrong(t, "refclock "+word+" "+text, 0, api.ErrNumber)
		}
	}
	for _, text := range []string{"refclock", "refclock x", "refclock x 0", "refclock 0", "refclock 0 nmea", "refclock NMEA 0", "refclock x x"} {
		holdWrong(t, text, 1, api.ErrToken)
	}
	holdRead(t, "refclock nmea 1\nserver 0.0.0.1", func(c *api.Config) {
		c.Assocs = []api.Assoc{{Kind: 6, Addr: 1, MinPoll: 3, MaxPoll: 3}, server(1)}
	})
	holdWrong(t, "refclock nmea 1\nrefclock pps 1", 0, api.ErrTwice)
}

// P5.5: keys, and which are trusted.
func TestParseKeys(t *testing.T) {
	keys := func(l ...api.Key) func(*api.Config) { return func(c *api.Config) { c.Keys = l } }
	long := strings.Repeat("0f", 32)
	longBytes, _ := hex.DecodeString(long)
	holdRead(t, "key 1 sha256 00", keys(api.Key{ID: 1, Kind: 1, Bytes: []byte{0}}))
	holdRead(t, "key 65535 sha256 0123456789abcdef", keys(api.Key{ID: 65535, Kind: 1, Bytes: []byte{1, 0x23, 0x45, 0x67, 0x89, 0xab, 0xcd, 0xef}}))
	holdRead(t, "key 1 sha256 "+long, keys(api.Key{ID: 1, Kind: 1, Bytes: longBytes}))
	holdRead(t, "key 1 cmac "+long[:32], keys(api.Key{ID: 1, Kind: 2, Bytes: longBytes[:16]}))
	holdRead(t, "key 2 sha256 ff\nkey 1 sha256 fe", keys(api.Key{ID: 2, Kind: 1, Bytes: []byte{255}}, api.Key{ID: 1, Kind: 1, Bytes: []byte{254}}))
	for text, wrong := range map[string]api.Errno{
		"": api.ErrToken, "1": api.ErrToken, "1 sha256": api.ErrToken, "1 cmac # 00": api.ErrToken, "1 sha256 00 00": api.ErrToken, "1 sha256 00 x": api.ErrToken,
		"x": api.ErrNumber, "01 sha256 00": api.ErrNumber, "-1 sha256 00": api.ErrNumber, "sha256 00": api.ErrNumber, "10000000000 sha256 00": api.ErrNumber,
		"1 md5 00": api.ErrToken, "1 SHA256 00": api.ErrToken, "1 00": api.ErrToken, "1 sha 0": api.ErrToken, "x md5 0": api.ErrNumber,
		"1 sha256 0": api.ErrNumber, "1 sha256 000": api.ErrNumber, "1 sha256 0g": api.ErrNumber, "1 sha256 g0": api.ErrNumber, "1 sha256 0A": api.ErrNumber, "1 sha256 A0": api.ErrNumber, "1 sha256 0x00": api.ErrNumber, "1 sha256 -1": api.ErrNumber, "1 sha256 zz": api.ErrNumber,
		"1 sha256 0/": api.ErrNumber, "1 sha256 0:": api.ErrNumber, "1 sha256 0`": api.ErrNumber, "1 sha256 0@": api.ErrNumber,
		"1 sha256 " + long + "0": api.ErrNumber, "1 sha256 " + long + "00": api.ErrNumber, "1 cmac " + long + "00": api.ErrNumber,
		"1 sha256 0 x": api.ErrNumber,
	} {
		holdWrong(t, "key "+text, 1, wrong)
	}
	for _, text := range []string{"0 sha256 00", "65536 sha256 00", "9999999999 sha256 00", "1 cmac 00", "1 cmac " + long[:30], "1 cmac " + long[:34], "1 cmac " + long} {
		holdWrong(t, "key "+text, 0, api.ErrNumber)
	}
	holdWrong(t, "key 1 sha256 00\nkey 1 cmac "+long[:32], 0, api.ErrTwice)

	const three = "key 1 sha256 01\nkey 2 sha256 02\nkey 3 sha256 03\n"
	trust := func(control int, trusted ...int) func(*api.Config) {
		return func(c *api.Config) {
			c.Keys = []api.Key{{ID: 1, Kind: 1, Bytes: []byte{1}}, {ID: 2, Kind: 1, Bytes: []byte{2}}, {ID: 3, Kind: 1, Bytes: []byte{3}}}
			c.Trusted, c.Control = trusted, control
		}
	}
	holdRead(t, three+"trustedkey 2", trust(0, 2))
	holdRead(t, three+"trustedkey 3 1 2", trust(0, 3, 1, 2))
	holdRead(t, "trustedkey 3\n"+three+"trustedkey 2 1", trust(0, 3, 2, 1))
	holdRead(t, "controlkey 3\n"+three, trust(3))
	holdRead(t, three+"controlkey 0", trust(0))
	holdWrong(t, three+"trustedkey", 4, api.ErrToken)
	holdWrong(t, three+"trustedkey 1 x", 4, api.ErrNumber)
	holdWrong(t, three+"trustedkey 1 02", 4, api.ErrNumber)
	holdWrong(t, three+"trustedkey 1 1", 0, api.ErrTwice)
	holdWrong(t, three+"trustedkey 1\ntrustedkey 2 1", 0, api.ErrTwice)
	holdWrong(t, three+"trustedkey 4", 0, api.ErrNumber)
	holdWrong(t, three+"trustedkey 0", 0, api.ErrNumber)
	holdWrong(t, three+"trustedkey"+strings.Repeat(" 1", 17), 0, api.ErrMany)
	holdWrong(t, three+"controlkey 4", 0, api.ErrNumber)
	holdWrong(t, three+"controlkey", 4, api.ErrToken)
	holdWrong(t, three+"controlkey 1 2", 4, api.ErrToken)
	holdWrong(t, three+"controlkey x", 4, api.ErrNumber)
}

// P5.5: restrictions.
func TestParseRules(t *testing.T) {
	rules := func(l ...api.Rule) func(*api.Config) { return func(c *api.Config) { c.Rules = l } }
	holdRead(t, "restrict default", rules(api.Rule{}))
	holdRead(t, "restrict 10.0.0.1", rules(api.Rule{Addr: 0x0A000001, Bits: 32}))
	holdRead(t, "restrict 0.0.0.0", rules(api.Rule{Bits: 32}))
	holdRead(t, "restrict 0.0.0.0/0", rules(api.Rule{}))
	holdRead(t, "restrict 255.255.255.255/32", rules(api.Rule{Addr: math.MaxUint32, Bits: 32}))
	holdRead(t, "restrict 128.0.0.0/1 ignore", rules(api.Rule{Addr: 1 << 31, Bits: 1, Flags: 128}))
	flags := []string{"noserve", "noquery", "nomodify", "nopeer", "notrust", "limited", "kod", "ignore"}
	for i, flag := range flags {
		holdRead(t, "restrict 10.0.0.0/8 "+flag, rules(api.Rule{Addr: 10 << 24, Bits: 8, Flags: 1 << i}))
		holdWrong(t, "restrict 10.0.0.0/8 "+flag+" "+flag, 1, api.ErrTwice)
		holdWrong(t, "restrict default kod limited noquery kod "+flag, 1, api.ErrTwice)
		holdWrong(t, flag, 1, api.ErrToken)
	}
	holdRead(t, "restrict default "+strings.Join(flags, " "), rules(api.Rule{Flags: 255}))
	holdRead(t, "restrict 10.0.0.1 nomodify noserve kod", rules(api.Rule{Addr: 0x0A000001, Bits: 32, Flags: 69}))
	for text, wrong := range map[string]api.Errno{
		"": api.ErrToken, "x": api.ErrAddr, "Default": api.ErrAddr, "default/0": api.ErrAddr, "kod": api.ErrAddr, "10.0.0": api.ErrAddr, "10.0.0.256": api.ErrAddr, "10.0.0.01": api.ErrAddr,
		"/8": api.ErrAddr, "/": api.ErrAddr, "10.0.0/33": api.ErrAddr, "x/x": api.ErrAddr,
		"10.0.0.0/": api.ErrNumber, "10.0.0.0/33": api.ErrNumber, "10.0.0.0/032": api.ErrNumber, "10.0.0.0/00": api.ErrNumber, "10.0.0.0/-1": api.ErrNumber, "10.0.0.0/x": api.ErrNumber, "10.0.0.0/8/8": api.ErrNumber, "10.0.0.0//8": api.ErrNumber, "10.0.0.0/4294967304": api.ErrNumber, "10.0.0.0/10000000000": api.ErrNumber,
		"10.0.0.0 /8": api.ErrToken, "10.0.0.0/ 8": api.ErrNumber, "10.0.0.0/8 x": api.ErrToken, "10.0.0.0/8 KOD": api.ErrToken, "default default": api.ErrToken, "10.0.0.0/8 10.0.0.1": api.ErrToken,
		"default kod x kod": api.ErrToken, "default kod kod x": api.ErrTwice, "10.0.0.0/33 x": api.ErrNumber, "x kod kod": api.ErrAddr,
	} {
		holdWrong(t, "restrict "+text, 1, wrong)
	}
	holdWrong(t, "restrict 10.0.0.1/31", 0, api.ErrAddr)
	holdWrong(t, "restrict 128.0.0.0/0", 0, api.ErrAddr)
	holdWrong(t, "restrict 0.0.0.0/0\nrestrict default kod", 0, api.ErrTwice)
	holdWrong(t, "restrict 1.1.1.1\nrestrict 1.1.1.1/32", 0, api.ErrTwice)
	var many, tooMany strings.Builder
	for i := range 33 {
		tooMany.WriteString("restrict 0.0.0." + strconv.Itoa(i) + "\n")
		if i < 32 {
			many.WriteString("restrict 0.0.0." + strconv.Itoa(i) + "\n")
		}
	}
	if c, n, err := conf.Parse(many.String()); len(c.Rules) != 32 || n != 0 || err != api.OK {
		t.Errorf("Parse of 32 rules is %v, %d, %v", c, n, err)
	}
	holdWrong(t, tooMany.String(), 0, api.ErrMany)
}

// P5.5: files, statistics and all that is a number.
func TestParseRest(t *testing.T) {
	holdRead(t, "broadcastclient", func(c *api.Config) { c.Listen = true })
	holdRead(t, "manycastserver", func(c *api.Config) { c.Manycast = true })
	holdRead(t, "driftfile a", func(c *api.Config) { c.Drift = "a" })
	holdRead(t, "driftfile abcdefghijklmnopqrstuvwx", func(c *api.Config) { c.Drift = "abcdefghijklmnopqrstuvwx" })
	holdRead(t, "driftfile ..z_09", func(c *api.Config) { c.Drift = "..z_09" })
	holdRead(t, "statistics loop", func(c *api.Config) { c.Stats = []string{"loop"} })
	holdRead(t, "statistics peer clock loop", func(c *api.Config) { c.Stats = []string{"peer", "clock", "loop"} })
	holdRead(t, "statistics clock\nstatistics loop peer", func(c *api.Config) { c.Stats = []string{"clock", "loop", "peer"} })
	for _, text := range []string{
		"broadcastclient x", "manycastserver 10.0.0.1", "broadcastclient broadcastclient", "driftfile", "driftfile a b", "driftfile A", "driftfile a/b", "driftfile abcdefghijklmnopqrstuvwxy", "statistics", "statistics x", "statistics loop x", "statistics Loop", "statistics loop loop x",
		"orphan", "step", "panic", "stepout", "average", "minimum", "orphan 1 2", "step 1 2", "panic 1 x", "stepout 1 1", "average 1 1", "minimum 1 -1", "x", "5", "-", "Server 10.0.0.1", "servers 10.0.0.1", "orphans 1", "trustedkeys 1", "tos orphan 1", "=", "nmea",
	} {
		holdWrong(t, text, 1, api.ErrToken)
	}
	holdWrong(t, "statistics loop loop", 0, api.ErrTwice)
	holdWrong(t, "statistics loop peer\nstatistics loop", 0, api.ErrTwice)
	holdWrong(t, "statistics loop peer clock loop", 0, api.ErrMany)
	for _, field := range []struct {
		word        string
		set         func(*api.Config, int)
		least, most int
	}{
		{"orphan", func(c *api.Config, n int) { c.Orphan = n }, 0, 15},
		{"step", func(c *api.Config, n int) { c.Step = thousandths(n) }, 1, 10000},
		{"panic", func(c *api.Config, n int) { c.Panic = api.Span(n) * api.Second }, 1, 100000},
		{"stepout", func(c *api.Config, n int) { c.Stepout = n }, 0, 10000},
		{"average", func(c *api.Config, n int) { c.Average = n }, 0, 10},
		{"minimum", func(c *api.Config, n int) { c.Minimum = n }, 0, 60},
	} {
		for _, n := range []int{field.least, field.least + 1, field.most - 1, field.most} {
			holdRead(t, field.word+" "+strconv.Itoa(n), func(c *api.Config) { field.set(c, n) })
		}
		holdWrong(t, field.word+" "+strconv.Itoa(field.most+1), 0, api.ErrNumber)
		if field.least > 0 {
			holdWrong(t, field.word+" 0", 0, api.ErrNumber)
		}
		// These would be right, if they wrapped round: 2^32 and one more, 2^33 seconds and one more.
		for _, text := range []string{"4294967296", "4294967297", "8589934593", "9999999999"} {
			holdWrong(t, field.word+" "+text, 0, api.ErrNumber)
		}
		for _, text := range []string{"x", "-1", "+1", "01", "00", "1.0", "0x1", "10000000000", "18446744073709551617", "1e1", "１"} {
			wrong := api.ErrNumber
			if text == "１" {
				wrong = api.ErrToken
			}
			holdWrong(t, field.word+" "+text, 1, wrong)
		}
	}
}

// P5.5: which commands may stand once.
func TestParseOnce(t *testing.T) {
	for _, line := range []string{"controlkey 0", "driftfile d", "orphan 1", "step 1", "panic 1", "stepout 1", "average 1", "minimum 1", "broadcastclient", "manycastserver"} {
		word, _, _ := strings.Cut(line, " ")
		holdWrong(t, line+"\n"+line, 2, api.ErrTwice)
		holdWrong(t, line+"\n\nserver 10.0.0.1 # x\n "+line+" #", 4, api.ErrTwice)
		// The command stands to the left of what else is wrong.
		holdWrong(t, line+"\n"+word, 2, api.ErrTwice)
		holdWrong(t, line+"\n"+word+" x y", 2, api.ErrTwice)
		holdWrong(t, line+"\n"+word+" \x01", 2, api.ErrToken)
		if c, n, err := conf.Parse(line + " # " + line); n != 0 || err != api.OK || c.Stepout == 0 {
			t.Errorf("Parse of %q is %v, %d, %v", line, c, n, err)
		}
	}
	holdWrong(t, "server 10.0.0.1\nserver 10.0.0.1", 0, api.ErrTwice)
}

// P5.5: Check comes behind all lines.
func TestParseChecksTheWhole(t *testing.T) {
	holdWrong(t, "server 224.0.1.1\nserve", 2, api.ErrToken)
	holdWrong(t, "server 224.0.1.1\norphan 16", 0, api.ErrAddr)
	holdWrong(t, "orphan 16\nserver 224.0.1.1", 0, api.ErrAddr)
	holdWrong(t, "orphan 16\nrestrict 1.1.1.1/1", 0, api.ErrAddr)
	holdWrong(t, "server 0.0.0.0", 0, api.ErrAddr)
	holdWrong(t, "peer 255.255.255.255", 0, api.ErrAddr)
	holdWrong(t, "broadcast 10.0.0.255", 0, api.ErrAddr)
	holdWrong(t, "manycastclient 255.255.255.255", 0, api.ErrAddr)
	holdWrong(t, "server 10.0.0.1 maxpoll 5", 0, api.ErrNumber)
	holdWrong(t, "server 10.0.0.1 minpoll 2", 0, api.ErrNumber)
	holdWrong(t, "server 10.0.0.1 maxpoll 11", 0, api.ErrNumber)
	holdWrong(t, "broadcast 224.0.1.1 ttl 0", 0, api.ErrNumber)
	holdWrong(t, "broadcast 224.0.1.1 ttl 256", 0, api.ErrNumber)
	holdRead(t, "broadcast 255.255.255.255", one(api.Assoc{Kind: 3, Addr: math.MaxUint32, MinPoll: 6, MaxPoll: 10, TTL: 1}))
	var s strings.Builder
	for i := range 17 {
		s.WriteString("server 10.0.1." + strconv.Itoa(i) + "\n")
	}
	holdWrong(t, s.String(), 0, api.ErrMany)
	holdWrong(t, strings.Repeat("key 1 sha256 00\n", 17), 0, api.ErrMany)
}

var forms = map[string]*regexp.Regexp{
	"A": regexp.MustCompile(`^` + fourNumbers + `$`),
	"N": regexp.MustCompile(`^(0|[1-9][0-9]{0,9})$`),
	"M": regexp.MustCompile(`^(0|-?[1-9][0-9]{0,9})$`),
	"H": regexp.MustCompile(`^([0-9a-f]{2}){1,32}$`),
	"F": regexp.MustCompile(`^[a-z0-9._]{1,24}$`),
	"W": regexp.MustCompile(`^(loop|peer|clock)$`),
	"C": regexp.MustCompile(`^(nmea|pps)$`),
	"K": regexp.MustCompile(`^(sha256|cmac)$`),
	"R": regexp.MustCompile(`^(default|` + fourNumbers + `(/([12]?[0-9]|3[0-2]))?)$`),
}

const (
	byteForm    = `(25[0-5]|2[0-4][0-9]|1[0-9][0-9]|[1-9]?[0-9])`
	fourNumbers = byteForm + `\.` + byteForm + `\.` + byteForm + `\.` + byteForm
)

var rangeStart = regexp.MustCompile(`^` + fourNumbers + `/`)

// grammar: what must stand behind a command, what may come again and again (with a + behind it), and which options there are.
var grammar = map[string]string{
	"server": "A key:N minpoll:N maxpoll:N burst: iburst: prefer:", "peer": "A key:N minpoll:N maxpoll:N burst: iburst: prefer:", "pool": "A key:N minpoll:N maxpoll:N",
	"broadcast": "A key:N minpoll:N maxpoll:N ttl:N", "manycastclient": "A key:N minpoll:N maxpoll:N ttl:N",
	"refclock": "C N prefer: stratum:N fudge:M", "broadcastclient": "", "manycastserver": "", "key": "N K H", "trustedkey": "N+", "controlkey": "N",
	"restrict": "R noserve: noquery: nomodify: nopeer: notrust: limited: kod: ignore:", "driftfile": "F", "statistics": "W+",
	"orphan": "N", "step": "N", "panic": "N", "stepout": "N", "average": "N", "minimum": "N",
}

const once = " controlkey driftfile orphan step panic stepout average minimum broadcastclient manycastserver "

// fitsForm is the error of a word in a place of that form.
func fitsForm(form, word string) api.Errno {
	if forms[form].MatchString(word) {
		return api.OK
	}
	switch form {
	case "A":
		return api.ErrAddr
	case "N", "M", "H":
		return api.ErrNumber
	case "R":
		if rangeStart.MatchString(word) {
			return api.ErrNumber
		}
		return api.ErrAddr
	}
	return api.ErrToken
}

// judgedLine is what P5.5 says of a line's words; said are the commands ahead.
func judgedLine(words []string, said map[string]bool) api.Errno {
	places, ok := grammar[words[0]]
	if !ok {
		return api.ErrToken
	}
	if said[words[0]] && strings.Contains(once, " "+words[0]+" ") {
		return api.ErrTwice
	}
	said[words[0]] = true
	words = words[1:]
	options := map[string]string{}
	for _, place := range strings.Fields(places) {
		if word, form, isOption := strings.Cut(place, ":"); isOption {
			options[word] = form
			continue
		}
		form, more := strings.CutSuffix(place, "+")
		for first := true; first || more && len(words) > 0; first = false {
			if len(words) == 0 {
				return api.ErrToken
			}
			if err := fitsForm(form, words[0]); err != api.OK {
				return err
			}
			words = words[1:]
		}
	}
	seen := map[string]bool{}
	for len(words) > 0 {
		form, ok := options[words[0]]
		if !ok {
			return api.ErrToken
		}
		if seen[words[0]] {
			return api.ErrTwice
		}
		seen[words[0]] = true
		words = words[1:]
		if form == "" {
			continue
		}
		if len(words) == 0 {
			return api.ErrToken
		}
		if err := fitsForm(form, words[0]); err != api.OK {
			return err
		}
		words = words[1:]
	}
	return api.OK
}

func drawnWord(r *rand.Rand, form string) string {
	switch form {
	case "A":
		return pick(r, "10.0.0.1", "224.0.1.1", "0.0.0.0", "255.255.255.255", "1.2.3.4")
	case "N":
		return pick(r, "0", "1", "3", "6", "10", "9999999999")
	case "M":
		return pick(r, "0", "-1", "1000", "-9999999999")
	case "H":
		return pick(r, "00", "abcdef", strings.Repeat("1f", 16), strings.Repeat("e9", 32))
	case "F":
		return pick(r, "d", "drift.1")
	case "W":
		return pick(r, "loop", "peer", "clock")
	case "C":
		return pick(r, "nmea", "pps")
	case "K":
		return pick(r, "sha256", "cmac")
	}
	return pick(r, "default", "10.0.0.0/8", "1.2.3.4", "0.0.0.0/32")
}

// drawnLine is words that are often right.
func drawnLine(r *rand.Rand) []string {
	var commands []string
	for command := range grammar {
		commands = append(commands, command)
	}
	words := []string{pick(r, sorted(commands)...)}
	for _, place := range strings.Fields(grammar[words[0]]) {
		option, form, isOption := strings.Cut(place, ":")
		switch {
		case isOption && r.IntN(2) == 0:
			words = append(words, option)
			if form != "" {
				words = append(words, drawnWord(r, form))
			}
		case !isOption:
			form, _ := strings.CutSuffix(place, "+")
			words = append(words, drawnWord(r, form))
		}
	}
	for range r.IntN(3) {
		at := r.IntN(len(words))
		other := pick(r, "x", "0", "07", "-0", "burst", "key", "minpoll", "kod", "10.0.0.256", "10.0.0.0/33", "10.0.0.0/", "fudge", "abc", "loop", words[r.IntN(len(words))])
		switch r.IntN(8) {
		case 0:
			words = append(words[:at:at], words[at+1:]...)
		case 1:
			words[at] = other
		case 2:
			words = append(words[:at+1:at+1], append([]string{other}, words[at+1:]...)...)
		case 3:
			words = append(words, other)
		}
		if len(words) == 0 {
			words = []string{"x"}
		}
	}
	return words
}

// P5.5 of drawn lines: which line is wrong, and what is.
func TestParseOfDrawnLines(t *testing.T) {
	r := draws(4)
	counts := map[api.Errno]int{}
	for range 30000 {
		var lines []string
		said := map[string]bool{}
		wrongLine, wrong := 0, api.OK
		for i := range 1 + r.IntN(3) {
			words := drawnLine(r)
			lines = append(lines, strings.Join(words, pick(r, " ", "\t", "  "))+pick(r, "", " # x"))
			if wrong == api.OK {
				if wrong = judgedLine(words, said); wrong != api.OK {
					wrongLine = i + 1
				}
			}
		}
		text := strings.Join(lines, "\n") + pick(r, "", "\n")
		c, n, err := conf.Parse(text)
		counts[wrong]++
		if wrong != api.OK && err != wrong || n != wrongLine {
			t.Fatalf("Parse of %q is %v, %d, %v, not %d, %v", text, c, n, err, wrongLine, wrong)
		}
		if err == api.OK && conf.Check(c) != api.OK || err != api.OK && !same(c, api.Config{}) {
			t.Fatalf("Parse of %q is %v, %d, %v", text, c, n, err)
		}
	}
	for _, err := range []api.Errno{api.OK, api.ErrToken, api.ErrNumber, api.ErrAddr, api.ErrTwice} {
		if counts[err] < 100 {
			t.Errorf("%v came %d times only", err, counts[err])
		}
	}
}

// R1: any bytes are answered.
func TestParseOfDrawnBytes(t *testing.T) {
	r := draws(5)
	for range 5000 {
		b := make([]byte, r.IntN(200))
		for i := range b {
			b[i] = byte(r.IntN(256))
		}
		if c, n, err := conf.Parse(string(b)); err == api.OK && n != 0 || err != api.OK && !same(c, api.Config{}) {
			t.Fatalf("Parse of %q is %v, %d, %v", b, c, n, err)
		}
	}
}
