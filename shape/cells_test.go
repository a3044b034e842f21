package shape

import (
	"testing"

	"tenterhook/mem"
)

// TestLock asks of locks by both tickets.
func TestLock(t *testing.T) {
	m := lay(2, memory(5120), 3600, 0)
	if next, served, ok := Lock(m, 3600); next != 0 || served != 0 || !ok || !Whole(m, 2, 3600) {
		t.Errorf("a new one: %d %d %v", next, served, ok)
	}
	for _, x := range []struct {
		next, served int
		ok           bool
	}{
		{0, 0, true}, {0, 1, false}, {0, -1, false}, {1, 0, true}, {1, 1, true}, {1, 2, false}, {1, -1, false}, {5, 3, true}, {5, 4, true}, {5, 5, true}, {5, 6, false}, {5, 0, true}, {5, -1, false}, {3, 5, false},
		{-1, -1, false}, {-1, 0, false}, {-1, -2, false}, {-2, -1, false}, {least, least, false}, {least, 0, false}, {0, least, false}, {greatest, greatest, true}, {greatest, 0, true}, {greatest, greatest - 1, true}, {greatest - 1, greatest, false}, {greatest, least, false}, {least, greatest, false}, {greatest, -1, false},
		{1 << 40, 1<<40 + 1, false}, {1<<40 + 1, 1 << 40, true}, {1 << 32, 1, true}, {1, 1 << 32, false},
	} {
		n := withCells(m, 3600, x.next, x.served)
		next, served, ok := Lock(n, 3600)
		if ok != x.ok || ok && (next != x.next || served != x.served) || !ok && (next != 0 || served != 0) || Whole(n, 2, 3600) != x.ok {
			t.Errorf("%d, %d: told %d %d %v", x.next, x.served, next, served, ok)
		}
		follow(t, n, 3600)
	}
}

// TestEvent asks of events by how many signals there are.
func TestEvent(t *testing.T) {
	for _, n := range []int{0, 1, 2, 255, 65536, 1<<31 - 1} {
		m := lay(3, memory(5120), 3616, n)
		if got, ok := Event(m, 3616); got != n || !ok || !Whole(m, 3, 3616) {
			t.Errorf("a new one of %d: %d %v", n, got, ok)
		}
	}
	for _, x := range []struct {
		n  int
		ok bool
	}{{0, true}, {1, true}, {-1, false}, {-2, false}, {least, false}, {least + 1, false}, {greatest, true}, {1 << 31, true}, {1 << 32, true}, {-1 << 32, false}, {-1 << 31, false}, {1 << 62, true}} {
		m := withCells(memory(5120), 3616, x.n)
		got, ok := Event(m, 3616)
		if ok != x.ok || ok && got != x.n || !ok && got != 0 || Whole(m, 3, 3616) != x.ok {
			t.Errorf("%d: told %d %v", x.n, got, ok)
		}
		follow(t, m, 3616)
	}
}

// TestCellsCut asks of memories that end within a lock and an event, just behind them, and farther.
func TestCellsCut(t *testing.T) {
	m := withCells(memory(9000), 3600, 6, 5)
	for bytes := 3590; bytes < 3640; bytes++ {
		got := follow(t, m[:bytes], 3600)
		if got.isLock != (bytes >= 3616) || got.isEvent != (bytes >= 3608) || got.whole[2] != got.isLock || got.whole[3] != got.isEvent {
			t.Errorf("%d bytes: %+v", bytes-3600, got)
		}
	}
}

// TestPlaces asks of each place that is an edge, in memories of several ends: an object may lie from 0 to 5120, at a multiple of 8, wherever there are bytes.
func TestPlaces(t *testing.T) {
	for _, x := range []struct {
		at            int
		short, longer [4]bool // by the kinds, in 5120 bytes, and in more
	}{
		{-1, [4]bool{}, [4]bool{}}, {-8, [4]bool{}, [4]bool{}}, {least, [4]bool{}, [4]bool{}}, {least + 8, [4]bool{}, [4]bool{}}, {greatest, [4]bool{}, [4]bool{}}, {greatest - 7, [4]bool{}, [4]bool{}}, {greatest - 15, [4]bool{}, [4]bool{}}, {-16, [4]bool{}, [4]bool{}}, {-24, [4]bool{}, [4]bool{}},
		{1 << 62, [4]bool{}, [4]bool{}}, {-1 << 62, [4]bool{}, [4]bool{}}, {1 << 32, [4]bool{}, [4]bool{}}, {1<<32 + 2048, [4]bool{}, [4]bool{}}, {least + 2048, [4]bool{}, [4]bool{}},
		{0, [4]bool{true, true, true, true}, [4]bool{true, true, true, true}}, {8, [4]bool{true, true, true, true}, [4]bool{true, true, true, true}}, {1, [4]bool{}, [4]bool{}}, {4, [4]bool{}, [4]bool{}}, {7, [4]bool{}, [4]bool{}},
		{2040, [4]bool{true, true, true, true}, [4]bool{true, true, true, true}}, {2048, [4]bool{true, true, true, true}, [4]bool{true, true, true, true}}, {2049, [4]bool{}, [4]bool{}}, {2052, [4]bool{}, [4]bool{}}, {2055, [4]bool{}, [4]bool{}}, {4096, [4]bool{true, true, true, true}, [4]bool{true, true, true, true}},
		// A stack of one has 152 bytes, of which the last eight are not asked for; a ring of one has 32.
		{5120 - 152, [4]bool{true, true, true, true}, [4]bool{true, true, true, true}}, {5120 - 144, [4]bool{true, true, true, true}, [4]bool{true, true, true, true}}, {5120 - 136, [4]bool{false, true, true, true}, [4]bool{true, true, true, true}}, {5088, [4]bool{false, true, true, true}, [4]bool{true, true, true, true}}, {5096, [4]bool{false, false, true, true}, [4]bool{true, true, true, true}}, {5104, [4]bool{false, false, true, true}, [4]bool{true, true, true, true}},
		{5112, [4]bool{false, false, false, true}, [4]bool{true, true, true, true}}, {5119, [4]bool{}, [4]bool{}}, {5120, [4]bool{}, [4]bool{true, true, true, true}}, {5121, [4]bool{}, [4]bool{}}, {5128, [4]bool{}, [4]bool{}}, {6000, [4]bool{}, [4]bool{}},
	} {
		for kind := range 4 {
			m := lies(kind, x.at)
			for k, want := range []bool{x.short[kind], x.longer[kind]} {
				bytes := m[:[]int{5120, 8000}[k]]
				if got := follow(t, bytes, x.at); got.whole[kind] != want {
					t.Errorf("kind %d, at %d, %d bytes: %+v", kind, x.at, len(bytes), got)
				}
			}
			for _, bytes := range [][]byte{nil, {}, m[:1], m[:7]} {
				if got := follow(t, bytes, x.at); differ(got, told{}) != "" {
					t.Errorf("kind %d, at %d, %d bytes: %+v", kind, x.at, len(bytes), got)
				}
			}
		}
	}
}

// TestBelow asks of objects whose first cells would lie ahead of the memory, while those that are asked for are there.
func TestBelow(t *testing.T) {
	for kind, l := range [][]int{{0, 1, 1, 2, 0, 3, 0, 4, 0, 5, 0, 6, 0, 7, 0, 8, 0, 0, 0}, {0, 0, 1, 0}, {0, 0}} {
		for k := 1; k < len(l); k++ {
			m := withCells(memory(5120), 0, l[k:]...)
			if got := follow(t, m, -8*k); differ(got, told{}) != "" {
				t.Errorf("kind %d, at %d: %+v", kind, -8*k, got)
			}
		}
	}
}

// lies is a memory with an object of one or of none of a kind at a place, if there is room for it.
func lies(kind, at int) []byte {
	l := [][]int{{0, 1, 1, 2, 0, 3, 0, 4, 0, 5, 0, 6, 0, 7, 0, 8, 0, 0, 0}, {0, 0, 1, 0}, {0, 0}, {0}}[kind]
	m := memory(8000)
	if at < 0 || at > 8000-8*len(l) {
		return m
	}
	return withCells(m, at, l...)
}

// TestNoObject asks of memory in which no object lies, place by place.
func TestNoObject(t *testing.T) {
	zeros, others := mem.New(5120), memory(5120)
	for at := -20; at < 5140; at++ {
		got := follow(t, zeros, at)
		if got.isStack || got.isFree || got.isRing || got.whole[0] || got.whole[1] {
			t.Errorf("bytes of 0 at %d: %+v", at, got)
		}
		// What is 0 is a lock that none holds, and an event without signals.
		if there := at >= 0 && at%8 == 0; got.isLock != (there && at <= 5104) || got.isEvent != (there && at <= 5112) {
			t.Errorf("bytes of 0 at %d: %+v", at, got)
		}
		if got := follow(t, others, at); got.isStack || got.isFree || got.isRing {
			t.Errorf("other bytes at %d: %+v", at, got)
		}
	}
}

// TestKinds asks Whole of each kind, of an object of each kind, and of kinds that there are not.
func TestKinds(t *testing.T) {
	m := lay(0, memory(5120), 2048, 3)
	m = lay(1, m, 3000, 3)
	m = lay(2, m, 3600, 0)
	m = lay(3, m, 3616, 1)
	for k, at := range []int{2048, 3000, 3600, 3616} {
		if !Whole(m, k, at) {
			t.Errorf("a new object of the kind %d is not whole", k)
		}
		for _, kind := range []int{-1, 4, 5, -2, -4, 8, 255, 256, 1 << 32, 1<<32 + 2, -1 << 32, least, greatest} {
			if Whole(m, kind, at) {
				t.Errorf("an object of the kind %d is whole by the kind %d", k, kind)
			}
		}
		follow(t, m, at)
	}
	for _, x := range []struct{ kind, at, put int }{
		{0, 2048, 1}, {0, 2056, 11}, {0, 2064, 0}, {0, 2064, 61}, {1, 3000, -1}, {1, 3008, 1}, {1, 3008, -1}, {1, 3016, 0}, {2, 3608, 1}, {2, 3608, -1}, {2, 3600, -1}, {3, 3616, -1}, {3, 3616, least},
	} {
		n := putAt(m, x.at, x.put)
		for k, at := range []int{2048, 3000, 3600, 3616} {
			if Whole(n, k, at) != (k != x.kind) {
				t.Errorf("with %d at %d: the kind %d is told wrongly", x.put, x.at, k)
			}
		}
	}
}
