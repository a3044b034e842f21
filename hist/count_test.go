package hist

import (
	"slices"
	"testing"

	"tenterhook/api"
)

// TestHolders asks of the lock at 8, by the document's words.
func TestHolders(t *testing.T) {
	for _, x := range []struct {
		name string
		h    []api.Event
		most int
		ok   bool
	}{
		{"nothing", nil, 0, true},
		{"no event", ev(), 0, true},
		{"called", ev(0, 11, 8, 0), 0, true},
		{"taken", ev(0, 11, 8, 0, 0, 12, 8, 0), 1, true},
		{"taken and released", ev(0, 11, 8, 0, 0, 12, 8, 0, 0, 13, 8, 0, 0, 14, 8, 0), 1, true},
		{"by turns", ev(0, 11, 8, 0, 1, 11, 8, 0, 0, 12, 8, 0, 0, 13, 8, 0, 1, 12, 8, 1, 0, 14, 8, 0, 1, 13, 8, 0, 1, 14, 8, 0), 1, true},
		{"the same again", ev(0, 12, 8, 0, 0, 13, 8, 0, 0, 12, 8, 1, 0, 13, 8, 0, 0, 12, 8, 2), 1, true},
		{"two", ev(0, 12, 8, 0, 1, 12, 8, 1), 2, true},
		{"three in the middle", ev(0, 12, 8, 0, 1, 12, 8, 1, 2, 12, 8, 2, 1, 13, 8, 0, 0, 13, 8, 0, 2, 13, 8, 0), 3, true},
		{"two, and later on one", ev(0, 12, 8, 0, 1, 12, 8, 1, 1, 13, 8, 0, 0, 13, 8, 0, 2, 12, 8, 2), 2, true},
		{"tasks of any numbers", ev(least, 12, 8, 0, -1, 12, 8, 1, 8, 12, 8, 2, greatest, 12, 8, 3, least, 13, 8, 0), 4, true},

		{"the first ticket is not 0", ev(0, 12, 8, 1), 1, false},
		{"it is -1", ev(0, 12, 8, -1), 1, false},
		{"one too much", ev(0, 12, 8, 0, 0, 13, 8, 0, 1, 12, 8, 2), 1, false},
		{"one too little, told twice", ev(0, 12, 8, 0, 0, 13, 8, 0, 1, 12, 8, 0), 1, false},
		{"told twice, by one task", ev(0, 12, 8, 0, 0, 12, 8, 0), 1, false},
		{"the other way round", ev(0, 12, 8, 1, 0, 13, 8, 0, 1, 12, 8, 0), 1, false},
		{"it goes on from the wrong one", ev(0, 12, 8, 1, 0, 13, 8, 0, 1, 12, 8, 2), 1, false},
		{"with digits above", ev(0, 12, 8, 1<<32), 1, false},
		{"counted on behind it", ev(0, 12, 8, 9, 1, 12, 8, 1), 2, false},

		{"taken by who has it", ev(0, 11, 8, 0, 0, 12, 8, 0, 0, 11, 8, 0, 0, 12, 8, 1), 1, true},
		{"and released", ev(0, 12, 8, 0, 0, 12, 8, 1, 0, 13, 8, 0, 1, 12, 8, 2), 1, true},
		{"and released twice", ev(0, 12, 8, 0, 0, 12, 8, 1, 0, 13, 8, 0, 0, 13, 8, 0), 1, false},
		{"its last call has not returned", ev(0, 11, 8, 0, 0, 12, 8, 0, 0, 11, 8, 0, 1, 12, 8, 1), 1, true},
		{"now it has", ev(0, 11, 8, 0, 0, 12, 8, 0, 0, 11, 8, 0, 1, 12, 8, 1, 0, 12, 8, 2), 2, true},
		{"released while it has not", ev(0, 11, 8, 0, 0, 12, 8, 0, 0, 11, 8, 0, 0, 13, 8, 0), 1, false},

		{"released by who never held it", ev(0, 13, 8, 0), 0, false},
		{"by another one", ev(0, 12, 8, 0, 1, 13, 8, 0), 1, false},
		{"who holds it still holds it", ev(0, 12, 8, 0, 1, 13, 8, 0, 2, 12, 8, 1), 2, false},
		{"by who held it", ev(0, 12, 8, 0, 0, 13, 8, 0, 0, 14, 8, 0, 0, 13, 8, 0), 1, false},
		{"by who held it, while another one has it", ev(0, 12, 8, 0, 0, 13, 8, 0, 1, 12, 8, 1, 0, 13, 8, 0, 1, 13, 8, 0), 1, false},
		{"ahead of the return", ev(0, 11, 8, 0, 0, 13, 8, 0, 0, 12, 8, 0), 1, false},
		{"ahead of the return, nothing else", ev(0, 11, 8, 0, 0, 13, 8, 0), 0, false},
		{"of the return alone nothing is asked", ev(0, 14, 8, 0, 1, 14, 8, 5), 0, true},

		{"another object", ev(0, 12, 16, 5, 0, 13, 16, 0, 1, 13, 16, 0), 0, true},
		{"another one by turns", ev(0, 12, 16, 0, 1, 12, 8, 0, 0, 13, 16, 0, 1, 13, 8, 0, 1, 12, 16, 1, 0, 12, 8, 1), 1, true},
		{"another one is taken again", ev(0, 12, 8, 0, 0, 11, 16, 0, 1, 12, 8, 1), 2, true},
		{"other kinds", ev(0, 12, 8, 0, 0, 1, 8, 0, 0, 2, 8, 5, 0, 4, 8, 5, 0, 15, 8, 0, 0, 17, 8, 0, 0, least, 8, 0, 0, -1, 8, 0, 0, 0, 8, 0, 0, 19, 8, 0, 0, greatest, 8, 0, 1, 12, 8, 1), 2, true},
	} {
		if got := follow(t, x.h, 8, 0); got.most != x.most || got.isLock != x.ok {
			t.Errorf("%s: %v: told %d %v, not %d %v", x.name, x.h, got.most, got.isLock, x.most, x.ok)
		}
	}
}

// TestSignals asks of the event at 8, by the document's words.
func TestSignals(t *testing.T) {
	for _, x := range []struct {
		name   string
		h      []api.Event
		n, low int
	}{
		{"nothing, of 0", nil, 0, 0}, {"of -1", nil, -1, -1}, {"of more", nil, 7, 7}, {"no event", ev(), 3, 3}, {"of the lowest", nil, least, least}, {"of the highest", nil, greatest, greatest},
		{"waited for", ev(0, 15, 8, 0, 0, 16, 8, 0), 1, 0},
		{"waited for, of 0", ev(0, 15, 8, 0, 0, 16, 8, 0), 0, -1},
		{"waits", ev(0, 15, 8, 0, 1, 15, 8, 0), 0, 0},
		{"signalled", ev(0, 17, 8, 0, 0, 18, 8, 0), 0, 0},
		{"signalled, of -1", ev(0, 17, 8, 0, 0, 18, 8, 0), -1, -1},
		{"and waited for", ev(0, 17, 8, 0, 1, 16, 8, 0, 0, 18, 8, 0), 0, 0},
		{"the call counts, not the return", ev(0, 18, 8, 0, 1, 16, 8, 0), 0, -1},
		{"ahead of it", ev(1, 16, 8, 0, 0, 17, 8, 0), 0, -1},
		{"below 0 for a while", ev(0, 17, 8, 0, 1, 16, 8, 0, 2, 16, 8, 0, 0, 17, 8, 0, 0, 17, 8, 0), 0, -1},
		{"0 for a while", ev(0, 16, 8, 0, 1, 16, 8, 0, 2, 17, 8, 0, 0, 17, 8, 0), 2, 0},
		{"more for a while", ev(0, 17, 8, 0, 1, 17, 8, 0, 1, 16, 8, 0, 2, 16, 8, 0, 2, 16, 8, 0), 2, 1},
		{"the least is the last", ev(0, 16, 8, 0, 1, 16, 8, 0, 2, 16, 8, 0), 2, -1},
		{"values and tasks count for nothing", ev(greatest, 17, 8, 5, least, 16, 8, 9, -1, 17, 8, -3, 8, 16, 8, least), 0, 0},
		{"another object", ev(0, 16, 16, 0, 0, 16, 0, 0, 0, 17, 16, 0), 0, 0},
		{"another one by turns", ev(0, 17, 16, 0, 0, 16, 8, 0, 0, 16, 16, 0, 0, 17, 8, 0), 4, 3},
		{"other kinds", ev(0, 1, 8, 0, 0, 2, 8, 0, 0, 12, 8, 0, 0, 14, 8, 0, 0, 0, 8, 0, 0, -1, 8, 0, 0, 19, 8, 0, 0, least, 8, 0, 0, greatest, 8, 0), 5, 5},
		{"from the highest on", ev(0, 17, 8, 0, 0, 17, 8, 0, 0, 16, 8, 0), greatest, greatest},
		{"from the highest on, less", ev(0, 16, 8, 0, 0, 17, 8, 0, 0, 17, 8, 0), greatest, greatest - 1},
		{"to the lowest", ev(0, 16, 8, 0, 0, 16, 8, 0), least + 2, least},
		{"from the lowest on", ev(0, 17, 8, 0, 0, 16, 8, 0), least, least},
	} {
		if got := follow(t, x.h, 8, x.n); got.signals != x.low || got.isEvent != (x.low >= 0) {
			t.Errorf("%s: %v of %d: told %d %v, not %d", x.name, x.h, x.n, got.signals, got.isEvent, x.low)
		}
	}
	// There is no cell below the lowest: it is not 0 at least.
	for _, n := range []int{least, least + 1} {
		if low, ok := Signals(ev(0, 16, 8, 0, 0, 16, 8, 0, 0, 17, 8, 0), 8, n); ok || low != least {
			t.Errorf("of %d: %d %v", n, low, ok)
		}
	}
}

// TestPending asks of each kind as a task's last one.
func TestPending(t *testing.T) {
	none := make([]bool, 8)
	for _, h := range [][]api.Event{nil, {}, ev(-1, 1, 8, 0, 8, 1, 8, 0, least, 1, 8, 0, greatest, 1, 8, 0, 1<<32, 1, 8, 0, 9, 3, 8, 0)} {
		if got := follow(t, h, 8, 0); !slices.Equal(got.pending, none) {
			t.Errorf("%v: %v", h, got.pending)
		}
	}
	for _, kind := range []int{least, -1, 0, 1, 2, 3, 4, 5, 6, 7, 8, 9, 10, 11, 12, 13, 14, 15, 16, 17, 18, 19, 1<<32 + 1, greatest} {
		pends := kind == 1 || kind == 3 || kind == 6 || kind == 8
		for task := range 8 {
			want := slices.Clone(none)
			want[task] = pends
			for _, at := range []int{8, 16, 0, -8, greatest} {
				// What others tell behind it counts for nothing, nor what it told ahead.
				h := ev(task, 1, 8, 0, task, kind, at, 0, -1, 2, at, 0, 8, 5, at, 0, (task+1)%8, 12, at, 0)
				if got := follow(t, h, 8, 0); !slices.Equal(got.pending, want) {
					t.Errorf("%v: %v", h, got.pending)
				}
				h[0].Kind = 2
				if got := follow(t, h, 8, 0); !slices.Equal(got.pending, want) {
					t.Errorf("%v: %v", h, got.pending)
				}
			}
		}
	}
	h := ev(0, 1, 8, 0, 7, 3, 8, 0, 2, 6, 16, 0, 3, 8, 24, 0, 0, 2, 8, 0, 4, 11, 8, 0, 7, 5, 16, 0, 7, 8, 16, 0, 2, 15, 8, 0, 0, 1, 0, 0, 3, 99, 0, 0)
	if got := follow(t, h, 8, 0); !slices.Equal(got.pending, []bool{true, false, false, false, false, false, false, true}) {
		t.Errorf("%v: %v", h, got.pending)
	}
}

// TestReturns counts each kind.
func TestReturns(t *testing.T) {
	counted := []int{2, 4, 5, 7, 9, 10}
	for _, kind := range []int{least, -2, -1, 0, 1, 2, 3, 4, 5, 6, 7, 8, 9, 10, 11, 12, 13, 14, 15, 16, 17, 18, 19, 20, 1<<32 + 2, greatest} {
		want := 0
		if slices.Contains(counted, kind) {
			want = 1
		}
		for _, task := range []int{least, -1, 0, 7, 8, greatest} {
			if n := Returns(ev(task, kind, 8, 0)); n != want {
				t.Errorf("of %d by %d: %d", kind, task, n)
			}
			if got := follow(t, ev(task, kind, 8, 0, task, 4, 16, 5, 3, kind, -9, greatest), 8, 0); got.returns != 2*want+1 {
				t.Errorf("of %d by %d: %d", kind, task, got.returns)
			}
		}
	}
	if n := Returns(nil) + Returns(ev()); n != 0 {
		t.Errorf("of nothing: %d", n)
	}
	h := ev(0, 2, 8, 0, 1, 4, 8, 5, 2, 5, 8, 0, 3, 7, 16, 1, 4, 9, 16, 1, 5, 10, 16, 0, 6, 12, 8, 0, 7, 14, 8, 0, 0, 16, 8, 0, 0, 18, 8, 0, 0, 2, 8, 0)
	if got := follow(t, h, 8, 0); got.returns != 7 {
		t.Errorf("of all: %d", got.returns)
	}
}
