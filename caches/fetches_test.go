package caches

import "testing"

func TestWaitingCountsAllFetchesOfACache(t *testing.T) {
	f := Fetches{}
	want := func(node, n int) {
		t.Helper()
		if got := f.Waiting(node); got != n {
			t.Errorf("P8: %d wait at %d, want %d", got, node, n)
		}
	}
	want(1, 0)
	f[Place{1, "a"}] = Fetch{Serial: 1, Waiters: []Waiter{{Id: 1}}}
	f[Place{1, "b"}] = Fetch{Serial: 2, Waiters: []Waiter{{Id: 1}, {Child: 3}}}
	f[Place{2, "a"}] = Fetch{Serial: 3, Waiters: []Waiter{{Id: 5}, {Id: 6}, {Id: 7}, {Id: 8}}}
	want(1, 3)
	want(2, 4)
	want(3, 0)
	delete(f, Place{1, "b"})
	want(1, 1)
	want(2, 4)
}

func TestClearEndsTheFetchesOfOneCache(t *testing.T) {
	f := Fetches{}
	for _, key := range []string{"a", "b", "c"} {
		for node := 1; node <= 3; node++ {
			f[Place{node, key}] = Fetch{Serial: node, Waiters: []Waiter{{Id: 1}}}
		}
	}
	f.Clear(2)
	f.Clear(2) // there are none
	for node, want := range []int{0, 3, 0, 3} {
		if got := f.Waiting(node); got != want {
			t.Errorf("P11: %d wait at %d, want %d", got, node, want)
		}
	}
	if len(f) != 6 {
		t.Errorf("P11: %d fetches are left, want 6", len(f))
	}
}
