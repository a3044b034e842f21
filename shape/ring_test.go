package shape

import (
	"slices"
	"testing"
)

// slotAt is where in a ring at 3000 a slot lies.
func slotAt(k int) int { return 3000 + 24 + 8*k }

// lays is the cell of a slot that is laid, in a round, with a value; r times round is one that is to be laid.
func lays(r, x int) int { return r*round + laid + x }

const most = 1 << 40

// TestRingOf asks Ring of a ring of 3 with cells put.
func TestRingOf(t *testing.T) {
	m := withCells(memory(5120), 3000, 0, 0, 3, 0, 0, 0)
	for _, x := range []struct {
		puts []int
		want []int
		ok   bool
	}{
		{nil, nil, true},
		// One that is laid: the tail tells it, or not yet.
		{[]int{slotAt(0), lays(0, 7), 3008, 1}, []int{7}, true}, {[]int{slotAt(0), lays(0, 7)}, []int{7}, true}, {[]int{slotAt(0), lays(0, 7), 3008, 2}, nil, false}, {[]int{slotAt(0), lays(0, 7), 3008, 3}, nil, false},
		// The tail without a value.
		{[]int{3008, 1}, nil, false}, {[]int{3008, 2}, nil, false}, {[]int{3000, 1}, nil, true}, {[]int{3000, 2}, nil, false}, {[]int{3000, 3}, nil, false},
		// Two and three that are laid; a tail that is as many behind the head, one less, two less, one more.
		{[]int{slotAt(0), lays(0, 7), slotAt(1), lays(0, 8), 3008, 2}, []int{7, 8}, true}, {[]int{slotAt(0), lays(0, 7), slotAt(1), lays(0, 8), 3008, 1}, []int{7, 8}, true}, {[]int{slotAt(0), lays(0, 7), slotAt(1), lays(0, 8), 3008, 0}, nil, false}, {[]int{slotAt(0), lays(0, 7), slotAt(1), lays(0, 8), 3008, 3}, nil, false},
		{[]int{slotAt(0), lays(0, 7), slotAt(1), lays(0, 8), slotAt(2), lays(0, 9), 3008, 3}, []int{7, 8, 9}, true}, {[]int{slotAt(0), lays(0, 7), slotAt(1), lays(0, 8), slotAt(2), lays(0, 9), 3008, 2}, []int{7, 8, 9}, true}, {[]int{slotAt(0), lays(0, 7), slotAt(1), lays(0, 8), slotAt(2), lays(0, 9), 3008, 4}, nil, false}, {[]int{slotAt(0), lays(0, 7), slotAt(1), lays(0, 8), slotAt(2), lays(0, 9), 3008, 1}, nil, false},
		// One that is laid behind one that is not is not reached.
		{[]int{slotAt(1), lays(0, 8)}, nil, true}, {[]int{slotAt(1), lays(0, 8), 3008, 1}, nil, false}, {[]int{slotAt(0), lays(0, 7), slotAt(2), lays(0, 9), 3008, 1}, []int{7}, true},
		// The values are the lowest 32 digits, without a sign.
		{[]int{slotAt(0), lays(0, 1<<32-1), 3008, 1}, []int{1<<32 - 1}, true}, {[]int{slotAt(0), lays(0, 1<<31), 3008, 1}, []int{1 << 31}, true}, {[]int{slotAt(0), lays(0, 0), 3008, 1}, []int{0}, true}, {[]int{slotAt(0), lays(0, 1<<31-1), 3008, 1}, []int{1<<31 - 1}, true},
		// Taken: the slot is to be laid a round later, and the head does not tell it yet.
		{[]int{slotAt(0), round, 3008, 1}, nil, true}, {[]int{slotAt(0), round, 3008, 1, 3000, 1}, nil, true}, {[]int{slotAt(0), round, 3008, 0}, nil, true}, {[]int{slotAt(0), round, 3008, 2}, nil, false}, {[]int{slotAt(0), round + 5, 3008, 1}, nil, true},
		{[]int{slotAt(0), round, slotAt(1), lays(0, 8), 3008, 2}, []int{8}, true}, {[]int{slotAt(0), round, slotAt(1), lays(0, 8), 3008, 1}, []int{8}, true}, {[]int{slotAt(0), round, slotAt(1), lays(0, 8), 3008, 3}, nil, false}, {[]int{slotAt(0), round, slotAt(1), lays(0, 8), 3008, 0}, nil, false},
		// Taken, and laid once more: the head's slot is the last one, and as many as n are held.
		{[]int{slotAt(0), lays(1, 5), slotAt(1), lays(0, 8), slotAt(2), lays(0, 9), 3008, 4}, []int{8, 9, 5}, true}, {[]int{slotAt(0), lays(1, 5), slotAt(1), lays(0, 8), slotAt(2), lays(0, 9), 3008, 3}, []int{8, 9, 5}, true}, {[]int{slotAt(0), lays(1, 5), slotAt(1), lays(0, 8), slotAt(2), lays(0, 9), 3008, 2}, nil, false}, {[]int{slotAt(0), lays(1, 5), slotAt(1), lays(0, 8), slotAt(2), lays(0, 9), 3008, 5}, nil, false},
		{[]int{slotAt(0), lays(1, 5), 3008, 1}, nil, true}, {[]int{slotAt(0), lays(1, 5), slotAt(1), round, slotAt(2), round, 3008, 1}, nil, true},
		// Taken two rounds and more ahead, with the highest digit too.
		{[]int{slotAt(0), 2 * round, 3008, 1}, nil, true}, {[]int{slotAt(0), lays(9, 5), 3008, 1}, nil, true}, {[]int{slotAt(0), least, 3008, 1}, nil, true}, {[]int{slotAt(0), least, 3008, 0}, nil, true}, {[]int{slotAt(0), least, 3008, 2}, nil, false}, {[]int{slotAt(0), -1, 3008, 1}, nil, true}, {[]int{slotAt(0), greatest, slotAt(1), lays(0, 3), 3008, 2}, []int{3}, true}, {[]int{slotAt(0), -1, slotAt(1), lays(0, 3), 3008, 2}, []int{3}, true},
		// Later rounds: of the position p it is p / 3.
		{[]int{3000, 4, 3008, 6, slotAt(1), lays(1, 8), slotAt(2), lays(1, 9)}, []int{8, 9}, true}, {[]int{3000, 4, 3008, 7, slotAt(1), lays(1, 8), slotAt(2), lays(1, 9), slotAt(0), lays(2, 5)}, []int{8, 9, 5}, true}, {[]int{3000, 4, 3008, 6, slotAt(1), lays(1, 8), slotAt(2), lays(1, 9), slotAt(0), lays(1, 5)}, []int{8, 9}, true}, {[]int{3000, 4, 3008, 6, slotAt(1), lays(0, 8), slotAt(2), lays(1, 9)}, nil, false}, {[]int{3000, 4, 3008, 6, slotAt(1), lays(1, 8), slotAt(2), lays(2, 9)}, nil, false}, {[]int{3000, 4, 3008, 5, slotAt(1), lays(1, 8), slotAt(2), lays(2, 9)}, []int{8}, true}, {[]int{3000, 4, 3008, 4, slotAt(1), lays(0, 8)}, nil, true}, {[]int{3000, 4, 3008, 5, slotAt(1), lays(2, 8)}, nil, true},
		{[]int{3000, 5, 3008, 7, slotAt(2), 2 * round, slotAt(0), lays(2, 5)}, []int{5}, true}, {[]int{3000, 5, 3008, 6, slotAt(2), round, slotAt(0), lays(2, 5)}, nil, false}, {[]int{3000, 5, 3008, 5, slotAt(2), round, slotAt(0), lays(2, 5)}, nil, true},
		// Rounds up to the highest that a slot may tell.
		{[]int{3000, 3 * (1<<31 - 1), 3008, 3*(1<<31-1) + 1, slotAt(0), lays(1<<31-1, 6)}, []int{6}, true}, {[]int{3000, 3 << 30, 3008, 3<<30 + 1, slotAt(0), lays(1<<30, 6)}, []int{6}, true}, {[]int{3000, 3 * (1<<30 - 1), 3008, 3*(1<<30-1) + 1, slotAt(0), least}, nil, true}, {[]int{3000, 3*(1<<30-1) + 1, 3008, 3 * (1<<30 - 1)}, nil, true},
		// The head and the tail at their edges.
		{[]int{3000, -1}, nil, false}, {[]int{3000, -1, 3008, -1}, nil, false}, {[]int{3008, -1}, nil, false}, {[]int{3000, least}, nil, false}, {[]int{3008, least}, nil, false}, {[]int{3000, greatest, 3008, greatest}, nil, false}, {[]int{3000, 1, 3008, 0}, nil, true},
		{[]int{3000, most, 3008, most}, nil, true}, {[]int{3000, most, 3008, most - 1}, nil, true}, {[]int{3000, most + 1, 3008, most + 1}, nil, false}, {[]int{3000, most + 1, 3008, most}, nil, false}, {[]int{3000, most, 3008, most + 1}, nil, false}, {[]int{3000, most}, nil, false}, {[]int{3008, most}, nil, false}, {[]int{3000, most - 1, 3008, most - 1}, nil, true},
		// n: 0, 1, 60, 61, and others.
		{[]int{3016, 0}, nil, false}, {[]int{3016, 61}, nil, false}, {[]int{3016, -1}, nil, false}, {[]int{3016, -3}, nil, false}, {[]int{3016, tag + 3}, nil, false}, {[]int{3016, least}, nil, false}, {[]int{3016, greatest}, nil, false}, {[]int{3016, 60}, nil, true},
		{[]int{3016, 1, slotAt(0), lays(0, 7), 3008, 1}, []int{7}, true}, {[]int{3016, 1, slotAt(0), lays(1, 7), 3008, 2}, []int{7}, true}, {[]int{3016, 1, slotAt(0), lays(1, 7), 3008, 1}, []int{7}, true}, {[]int{3016, 1, slotAt(0), lays(1, 7), 3008, 3}, nil, false}, {[]int{3016, 1, slotAt(0), lays(0, 7), 3008, 2}, nil, false}, {[]int{3016, 1, 3000, 5, 3008, 6, slotAt(0), lays(5, 7)}, []int{7}, true}, {[]int{3016, 1, 3000, 5, 3008, 6, slotAt(0), 6 * round}, nil, true}, {[]int{3016, 1, 3000, 5, 3008, 5, slotAt(0), 7 * round}, nil, true}, {[]int{3016, 2, slotAt(0), lays(0, 7), slotAt(1), lays(0, 8), slotAt(2), lays(0, 9), 3008, 2}, []int{7, 8}, true},
	} {
		n := putAt(m, x.puts...)
		if l, ok := Ring(n, 3000); ok != x.ok || !slices.Equal(l, x.want) {
			t.Errorf("%v: told %v %v, not %v %v", x.puts, l, ok, x.want, x.ok)
		}
		follow(t, n, 3000)
	}
}

// ringWith puts a ring of n at a place in which these are the values of the positions from head on; the slots ahead of them are taken.
func ringWith(m []byte, at, n, head int, values ...int) []byte {
	m = putAt(m, at, head, at+8, head+len(values), at+16, n)
	for p := head; p < head+n; p++ {
		m = putAt(m, at+24+8*(p%n), p/n*round)
	}
	for k, x := range values {
		p := head + k
		m = putAt(m, at+24+8*(p%n), lays(p/n, x))
	}
	return m
}

// TestRingSizes asks of rings of each n as lib lays them, and of those with 0 to n values from several positions on, with a tail and a head that are one behind.
func TestRingSizes(t *testing.T) {
	for n := 1; n <= 60; n++ {
		for _, at := range []int{2048, 2504, 4096 - 24 - 8*n} {
			if got := follow(t, lay(1, memory(5120), at, n), at); !got.isRing || len(got.ring) != 0 || !got.whole[1] {
				t.Fatalf("a ring of %d at %d: %+v", n, at, got)
			}
			for _, held := range []int{0, 1, n / 2, n - 1, n} {
				values := list(100, 99+held)
				for _, head := range []int{0, 1, n - 1, n, 7*n + n/2, 1 << 30} {
					ringFrom(t, ringWith(memory(5120), at, n, head, values...), at, n, head, values)
				}
			}
		}
	}
}

// ringFrom asks of a ring with these values, and with its head and its tail put elsewhere.
func ringFrom(t *testing.T, m []byte, at, n, head int, values []int) {
	t.Helper()
	tail := head + len(values)
	for _, x := range []struct {
		head, tail int
		want       []int
		ok         bool
	}{
		{head, tail, values, true}, {head, tail - 1, values, len(values) > 0 || head > 0}, {head, tail + 1, nil, false}, {head, tail - 2, nil, false},
		{head, tail + n, nil, false}, {-1, tail, nil, false}, {head, -1, nil, false}, {head, most + 1, nil, false}, {most + 1, most, nil, false},
	} {
		if !x.ok {
			x.want = nil
		}
		got := follow(t, putAt(m, at, x.head, at+8, x.tail), at)
		if got.isRing != x.ok || got.whole[1] != x.ok || !slices.Equal(got.ring, x.want) {
			t.Fatalf("a ring of %d with %v from %d on, with the head %d and the tail %d: %+v", n, values, head, x.head, x.tail, got)
		}
	}
	if len(values) == 0 {
		return
	}
	// The first value is taken: the head may tell it, or not yet.
	taken := putAt(m, at+24+8*(head%n), (head/n+1)*round)
	for _, h := range []int{head, head + 1} {
		got := follow(t, putAt(taken, at, h), at)
		if !got.isRing || !slices.Equal(got.ring, values[1:]) {
			t.Fatalf("a ring of %d with %v from %d on, with the head %d, the first one taken: %+v", n, values, head, h, got)
		}
	}
}

// TestRingMixes asks of rings whose slots are in rounds next to those of their positions.
func TestRingMixes(t *testing.T) {
	x := mix(2)
	counts := [2]int{}
	for range 20000 {
		n := x.of(1, 2, 3, 8, 60)
		at := x.of(2048, 2504, 4096-24-8*n, 0, 8, 5120)
		head := x.of(0, 1, n-1, n, x.below(4*n), x.below(1000), n*(1<<31-1), most-1, most)
		held := x.below(n + 1)
		m := ringWith(memory(6000), at, n, head, list(5, 4+held)...)
		for range x.below(4) {
			p := head + x.below(n)
			m = putAt(m, at+24+8*(p%n), (max(0, p/n+x.below(4)-1)*2+x.below(2))<<32+x.of(0, 1, 1<<31, 1<<32-1))
		}
		m = putAt(m, at+8*x.below(2), head+x.of(0, 0, 1, -1, held, held-1, held+1))
		got := follow(t, m, at)
		if got.isRing {
			counts[1]++
		} else {
			counts[0]++
		}
	}
	if min(counts[0], counts[1]) < 3000 {
		t.Errorf("not whole, and whole: %v", counts)
	}
}

// TestRingAllSlots asks of all small mixes of a ring of 2: its head, its tail, and both slots in three rounds.
func TestRingAllSlots(t *testing.T) {
	m := memory(5120)
	for k := range 8 * 8 * 6 * 7 {
		state := func(j int) int { return j<<32 + j }
		follow(t, withCells(m, 3000, k/64%6, k/384-1, 2, state(k%8), state(k/8%8)), 3000)
	}
}

// TestRingCut asks of memories that end within a ring, just behind it, and farther: only the slots that are asked for need to be there.
func TestRingCut(t *testing.T) {
	for held := range 4 {
		for head := range 7 {
			values := list(5, 4+held)
			m := ringWith(memory(9000), 3000, 3, head, values...)
			// Up to the slot of the first position that is not laid, if there is one.
			last := 0
			for p := head; p < head+min(held+1, 3); p++ {
				last = max(last, p%3)
			}
			for bytes := 2990; bytes < 3070; bytes++ {
				got := follow(t, m[:bytes], 3000)
				if ok := bytes >= slotAt(last)+8; got.isRing != ok || got.whole[1] != ok || ok && !slices.Equal(got.ring, values) {
					t.Fatalf("%v from %d on, %d bytes: %+v", values, head, bytes-3000, got)
				}
			}
		}
	}
	// As many as are there would do, but the slot behind them is not there: the tail, or the head, is one behind.
	for _, x := range []struct {
		head, tail   int
		first, other int
	}{{0, 0, lays(0, 7), 0}, {0, 1, lays(0, 7), 0}, {0, 1, round, 0}, {0, 0, round, 0}, {3, 3, lays(1, 7), round}, {3, 4, 2 * round, round}} {
		m := withCells(memory(9000), 3000, x.head, x.tail, 3, x.first, x.other, x.other)
		for bytes := slotAt(0); bytes < slotAt(3); bytes++ {
			if got := follow(t, m[:bytes], 3000); got.isRing != (bytes >= slotAt(1)+8) || got.whole[1] != got.isRing {
				t.Fatalf("%+v, %d bytes: %+v", x, bytes-3000, got)
			}
		}
	}
	last := ringWith(memory(9000), 5120, 2, 4, 8, 9)
	for _, bytes := range []int{0, 3000, 5120, 5128, 5159, 5160, 5161, 9000} {
		if got := follow(t, last[:bytes], 5120); got.isRing != (bytes >= 5160) {
			t.Errorf("%d bytes, at 5120: %+v", bytes, got)
		}
	}
	if got := follow(t, ringWith(memory(9000), 5128, 2, 4, 8, 9), 5128); differ(got, told{}) != "" {
		t.Errorf("at 5128: %+v", got)
	}
}
