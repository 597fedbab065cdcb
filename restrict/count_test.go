package restrict

import (
	"testing"

	"foliot/api"
)

// Nobody hears 2^31 packets within a test: the count is laid close to its end from within.
func TestCountEnds(t *testing.T) {
	for _, flags := range []int{0, api.Limited, api.Limited | api.Kod} {
		m, _ := New(0, 0)
		m.Heard(7, 0, flags)
		m.senders[0].Count = 1<<31 - 3
		for _, want := range []int{1<<31 - 2, 1<<31 - 1, 1<<31 - 1, 1<<31 - 1} {
			m.Heard(7, 0, flags)
			if e, is := m.Find(7); !is || e.Count != want {
				t.Errorf("Find(7) is %v, %v, want the Count %v", e, is, want)
			}
		}
		for range 10 {
			m.Heard(7, 0, flags)
		}
		if l := m.List(); len(l) != 1 || l[0].Count != 1<<31-1 {
			t.Errorf("List is %v", l)
		}
		m.Heard(8, 0, flags)
		if e, _ := m.Find(8); e.Count != 1 {
			t.Errorf("Find(8) is %v", e)
		}
	}
}
