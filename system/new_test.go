package system_test

import (
	"testing"

	"foliot/api"
	"foliot/system"
)

// The examples of the chapter.
func TestExamples(t *testing.T) {
	y := system.New(api.Config{})
	if system.Synced(y) {
		t.Error("New's is synchronised")
	}
	f := system.Follow(y, system.Lead{Stratum: 2, Delay: 1 << 20, Best: api.Best{Delay: 1 << 20, Disp: 100}, Offset: -7, Jitter: 4096}, 0, 6, 5*s)
	if f.Stratum != 3 || f.Delay != 1<<21 || f.Disp != 4203 {
		t.Errorf("Follow is %+v", f)
	}
	if d := system.Distance(f, f.Ref); d != 1<<20+4203 {
		t.Errorf("its distance is %d", d)
	}
	o := system.Orphan(y, api.Config{Orphan: 6}, 5*s)
	if l := system.Lose(o); o.Stratum != 6 || l.Stratum != 16 || l.Leap != api.LeapAlarm {
		t.Errorf("Orphan is %+v, Lose of that %+v", o, l)
	}
	p, ok := system.Reply(y, api.Packet{Mode: api.ModeClient, Xmt: 9}, 5, 6)
	if !ok || p.Mode != api.ModeServer || p.Leap != 3 || p.Stratum != 0 || p.Org != 9 {
		t.Errorf("Reply is %+v, %t", p, ok)
	}
	if p, ok := system.Reply(y, api.Packet{Mode: api.ModeServer, Xmt: 9}, 5, 6); ok {
		t.Errorf("Reply to an answer is %+v", p)
	}
}

// P17.1: whoever begins is not synchronised, whatever the configuration says.
func TestNew(t *testing.T) {
	full := api.Config{
		Assocs: []api.Assoc{{Kind: api.KindServer, Addr: 5, MinPoll: 5, MaxPoll: 9, Prefer: true}, {Kind: api.KindClock, Stratum: 1}},
		Keys:   []api.Key{{ID: 1, Kind: api.KeySHA, Bytes: []byte("a")}}, Trusted: []int{1}, Control: 1,
		Rules: []api.Rule{{Flags: api.NoServe}}, Drift: "drift", Stats: []string{"loop"}, Orphan: 6, Listen: true, Manycast: true,
		Step: second, Panic: 9 * second, Stepout: 300, Average: 3, Minimum: 2,
	}
	for _, c := range []api.Config{{}, full, {Orphan: 1}, {Orphan: -1}, {Orphan: greatest}} {
		got := system.New(c)
		if want := (api.System{Leap: 3, Stratum: 16, Poll: 3, Jitter: 4096}); got != want {
			t.Errorf("New is %+v, not %+v", got, want)
		}
		if system.Synced(got) {
			t.Error("it is synchronised")
		}
	}
	if full.Orphan != 6 || full.Assocs[1].Stratum != 1 || full.Stats[0] != "loop" {
		t.Error("New changed the configuration")
	}
}
