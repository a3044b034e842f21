package lib

import (
	"bytes"
	"slices"
	"testing"

	"tenterhook/api"
)

// call lays an object of a kind (0 a stack, 1 a ring, 2 a lock, 3 an event).
func call(kind int, m []byte, at, n int) ([]byte, api.Throw) {
	switch kind {
	case 0:
		return Stack(m, at, n)
	case 1:
		return Ring(m, at, n)
	case 2:
		return Lock(m, at)
	}
	return Event(m, at, n)
}

// held are the cells of a new object, as the document tells how it lies.
func held(kind, n int) []int {
	switch kind {
	case 0:
		l := []int{0, 1, n}
		for node := 1; node < n+7; node++ {
			l = append(l, node+1, 0)
		}
		return append(l, 0, 0)
	case 1:
		return append([]int{0, 0, n}, make([]int, n)...)
	case 2:
		return []int{0, 0}
	}
	return []int{n}
}

// may: may an object of a kind be of n?
func may(kind, n int) bool {
	switch kind {
	case 0, 1:
		return n >= 1 && n <= 60
	case 3:
		return n >= 0 && n <= 2147483647
	}
	return true
}

// wanted is what is thrown of an object of a kind.
func wanted(kind, bytes, at, n int) api.Throw {
	switch {
	case !may(kind, n):
		return -24
	case at < 2048 || at >= 4096 || at+8*len(held(kind, n)) > min(4096, bytes):
		return -9
	case at%8 != 0:
		return -23
	}
	return 0
}

// check holds a call against what is wanted, byte by byte, and what was handed in against what it was.
func check(t *testing.T, kind int, m []byte, at, n int, e api.Throw) []byte {
	t.Helper()
	was := whole(m)
	want := m
	if e == api.OK {
		want = withCells(m, at, held(kind, n)...)
	}
	got, gotE := call(kind, m, at, n)
	if gotE != e {
		t.Errorf("kind %d, %d bytes, at %d, n %d: throws %d, not %d", kind, len(m), at, n, int(gotE), int(e))
	}
	if !bytes.Equal(got, want) {
		t.Errorf("kind %d, %d bytes, at %d, n %d: the memory is another one than is wanted", kind, len(m), at, n)
	}
	if !bytes.Equal(whole(m), was) {
		t.Errorf("kind %d, %d bytes, at %d, n %d: the memory that was handed in is changed", kind, len(m), at, n)
	}
	return got
}

func TestSize(t *testing.T) {
	for _, x := range []struct{ n, stack, ring int }{
		{least, 136, 24}, {-5, 136, 24}, {-1, 136, 24}, {0, 136, 24}, {1, 152, 32}, {2, 168, 40}, {3, 184, 48}, {60, 1096, 504}, {61, 1112, 512},
		{99, 1720, 816}, {100, 1736, 824}, {101, 1736, 824}, {1 << 40, 1736, 824}, {1 << 60, 1736, 824}, {greatest, 1736, 824},
	} {
		for kind, want := range []int{x.stack, x.ring, 16, 8} {
			if got := Size(kind, x.n); got != want {
				t.Errorf("Size(%d, %d) = %d, not %d", kind, x.n, got, want)
			}
		}
		for _, kind := range []int{-1, 4, 5, -2, least, greatest, 1 << 32} {
			if got := Size(kind, x.n); got != 0 {
				t.Errorf("Size(%d, %d) = %d", kind, x.n, got)
			}
		}
	}
}

// TestSizeOfLaid asks that Size tells how many bytes an object that is laid has.
func TestSizeOfLaid(t *testing.T) {
	for kind := range 4 {
		for n := range 101 {
			if got, want := Size(kind, n), 8*len(held(kind, n)); got != want {
				t.Errorf("Size(%d, %d) = %d, not %d", kind, n, got, want)
			}
		}
	}
}

// TestCells asks for the cells of some objects, written out.
func TestCells(t *testing.T) {
	for _, x := range []struct {
		kind, n int
		want    []int
	}{
		{0, 1, []int{0, 1, 1, 2, 0, 3, 0, 4, 0, 5, 0, 6, 0, 7, 0, 8, 0, 0, 0}},
		{0, 2, []int{0, 1, 2, 2, 0, 3, 0, 4, 0, 5, 0, 6, 0, 7, 0, 8, 0, 9, 0, 0, 0}},
		{1, 1, []int{0, 0, 1, 0}}, {1, 4, []int{0, 0, 4, 0, 0, 0, 0}},
		{2, 0, []int{0, 0}}, {3, 0, []int{0}}, {3, 1, []int{1}}, {3, 258, []int{258}}, {3, 2147483647, []int{2147483647}},
	} {
		m, e := call(x.kind, memory(5120), 2504, x.n)
		if got := cells(m, 2504, len(x.want)); e != api.OK || !slices.Equal(got, x.want) {
			t.Errorf("kind %d of %d: throws %d, holds %v, not %v", x.kind, x.n, int(e), got, x.want)
		}
	}
}

// counts are some n that an object of a kind may have.
func counts(kind int) []int {
	switch kind {
	case 0, 1:
		return []int{1, 2, 3, 7, 8, 31, 59, 60}
	case 2:
		return []int{0}
	}
	return []int{0, 1, 255, 256, 65536, 2147483646, 2147483647}
}

// TestLaid lays objects at the heap's beginning, within it, and as far behind as they go, in memories of bytes of all kinds.
func TestLaid(t *testing.T) {
	for kind := range 4 {
		for _, n := range counts(kind) {
			last := 4096 - 8*len(held(kind, n))
			for _, at := range []int{2048, 2056, 2104, 2504, 3000, last - 8, last} {
				for _, bytes := range []int{5120, 4096, 5121, 9000, at + 8*len(held(kind, n)), at + 8*len(held(kind, n)) + 1} {
					check(t, kind, memory(bytes), at, n, 0)
				}
			}
		}
	}
}

// TestLaidEach lays a stack and a ring of each n that may be.
func TestLaidEach(t *testing.T) {
	for n := 1; n <= 60; n++ {
		check(t, 0, memory(5120), 2048, n, 0)
		check(t, 1, memory(5120), 2048, n, 0)
	}
}

func TestThrows(t *testing.T) {
	for _, x := range []struct {
		at, n                     int
		stack, ring, lock, signal api.Throw
	}{
		{2048, 0, -24, -24, 0, 0}, {2048, -1, -24, -24, 0, -24}, {2048, 1, 0, 0, 0, 0}, {2048, 60, 0, 0, 0, 0}, {2048, 61, -24, -24, 0, 0},
		{2048, 2147483647, -24, -24, 0, 0}, {2048, 2147483648, -24, -24, 0, -24}, {2048, least, -24, -24, 0, -24}, {2048, greatest, -24, -24, 0, -24},
		{2048, 1<<32 + 1, -24, -24, 0, -24}, {2048, -1<<32 + 1, -24, -24, 0, -24},
		{2047, 1, -9, -9, -9, -9}, {2049, 1, -23, -23, -23, -23}, {2052, 1, -23, -23, -23, -23}, {2055, 1, -23, -23, -23, -23}, {2056, 1, 0, 0, 0, 0}, {2040, 1, -9, -9, -9, -9},
		{4095, 1, -9, -9, -9, -9}, {4096, 1, -9, -9, -9, -9}, {4104, 1, -9, -9, -9, -9}, {5120, 1, -9, -9, -9, -9},
		{0, 1, -9, -9, -9, -9}, {8, 1, -9, -9, -9, -9}, {-8, 1, -9, -9, -9, -9}, {-1, 1, -9, -9, -9, -9},
		{least, 1, -9, -9, -9, -9}, {greatest, 1, -9, -9, -9, -9}, {greatest - 7, 1, -9, -9, -9, -9}, {1 << 62, 1, -9, -9, -9, -9}, {1<<32 + 2048, 1, -9, -9, -9, -9}, {-1 << 62, 1, -9, -9, -9, -9},
		// The last places at which each of them fits, and those next to them.
		{4096 - 1096, 60, 0, 0, 0, 0}, {4096 - 1096 + 1, 60, -9, -23, -23, -23}, {4096 - 1096 + 8, 60, -9, 0, 0, 0},
		{4096 - 152, 1, 0, 0, 0, 0}, {4096 - 152 + 8, 1, -9, 0, 0, 0}, {4096 - 152 - 1, 1, -23, -23, -23, -23},
		{4096 - 504, 60, -9, 0, 0, 0}, {4096 - 504 + 8, 60, -9, -9, 0, 0}, {4096 - 32, 1, -9, 0, 0, 0}, {4096 - 24, 1, -9, -9, 0, 0},
		{4080, 1, -9, -9, 0, 0}, {4081, 1, -9, -9, -9, -23}, {4088, 1, -9, -9, -9, 0}, {4089, 1, -9, -9, -9, -9},
		// Several apply: Number goes first, then Address, then Align.
		{2049, 0, -24, -24, -23, -23}, {2047, -1, -24, -24, -9, -24}, {least, 61, -24, -24, -9, -9}, {4095, 2147483648, -24, -24, -9, -24}, {2041, 1, -9, -9, -9, -9}, {2049, 1 << 31, -24, -24, -23, -24},
	} {
		for kind, e := range []api.Throw{x.stack, x.ring, x.lock, x.signal} {
			check(t, kind, memory(5120), x.at, x.n, e)
		}
	}
}

// TestThrowsByMemory is of memories that end ahead of the object, within it, just behind it, and farther.
func TestThrowsByMemory(t *testing.T) {
	for kind := range 4 {
		for _, m := range [][]byte{nil, {}} {
			check(t, kind, m, 2048, 1, -9)
			check(t, kind, m, 0, 1, -9)
			check(t, kind, m, 2049, 1, -9)
			check(t, kind, m, least, 1, -9)
			check(t, kind, m, greatest, 1, -9)
		}
		for _, n := range counts(kind) {
			for _, at := range []int{2048, 2504} {
				size := 8 * len(held(kind, n))
				for _, bytes := range []int{0, 1, 8, 2047, 2048, 2049, at, at + 1, at + size - 8, at + size - 1} {
					check(t, kind, memory(bytes), at, n, -9)
					check(t, kind, memory(bytes), at+1, n, -9)
				}
				for _, bytes := range []int{at + size, at + size + 1, 4096, 5120, 5121, 6000} {
					check(t, kind, memory(bytes), at, n, 0)
				}
				check(t, kind, memory(at+size), at+1, n, -9)
				check(t, kind, memory(at+size+1), at+1, n, -23)
			}
		}
		// What is behind the heap is not the heap, however much there is.
		check(t, kind, memory(9000), 4096, 1, -9)
		check(t, kind, memory(9000), 5120, 1, -9)
		check(t, kind, memory(9000), 8000, 1, -9)
	}
	for _, kind := range []int{0, 1} {
		check(t, kind, nil, 2048, 0, -24)
		check(t, kind, nil, 2049, 61, -24)
	}
	check(t, 3, nil, 2048, -1, -24)
}

// TestAnywhere asks of each place about the heap, and of each n about the edges, in memories of several ends.
func TestAnywhere(t *testing.T) {
	memories := [][]byte{memory(5120), memory(4096), memory(4001), memory(2200), memory(2048), memory(5300)}
	for kind := range 4 {
		for at := 1990; at <= 4110; at++ {
			m := memories[at%len(memories)]
			for _, n := range []int{0, 1, 60} {
				check(t, kind, m, at, n, wanted(kind, len(m), at, n))
			}
		}
		for n := -70; n <= 130; n++ {
			check(t, kind, memories[0], 2048, n, wanted(kind, 5120, 2048, n))
		}
	}
}

// TestAnyNumbers asks of the ends of all numbers, each with each, in memories of several ends.
func TestAnyNumbers(t *testing.T) {
	ends := []int{least, least + 1, least + 8, least + 2048, -1 << 62, -1 << 32, -1<<31 - 1, -1 << 31, -4096, -2048, -8, -1, 0, 1, 8, 60, 61, 100, 2047, 2048, 2049, 2056, 3000, 4088, 4095, 4096, 5112, 5120, 1<<31 - 1, 1 << 31, 1 << 32, 1<<32 + 2048, 1 << 62, greatest - 2048, greatest - 7, greatest - 1, greatest}
	memories := [][]byte{nil, {}, memory(8), memory(2048), memory(2200), memory(5120), memory(9000)}
	for kind := range 4 {
		for _, at := range ends {
			for _, n := range ends {
				m := memories[(at^n)&7%7]
				check(t, kind, m, at, n, wanted(kind, len(m), at, n))
				check(t, kind, memories[5], at, n, wanted(kind, 5120, at, n))
			}
		}
	}
}

// TestApart asks that memories that are made from one do not come into each other, nor into the first one's room.
func TestApart(t *testing.T) {
	m := memory(3000)
	first := whole(m)
	var made, kept [][]byte
	for k := range 12 {
		got, e := call(k%4, m, 2048+8*k, 1+k)
		if e != api.OK {
			t.Fatalf("throws %d", int(e))
		}
		// One more of that one, and one with bytes put behind it.
		more := with(call((k+1)%4, got, 2400, 3))
		longer := append(got, 1, 2, 3)
		for _, x := range [][]byte{got, more, longer} {
			made, kept = append(made, x), append(kept, slices.Clone(x))
		}
	}
	for k := range made {
		if !bytes.Equal(made[k], kept[k]) {
			t.Errorf("the memory %d is another one than it was", k)
		}
	}
	if !bytes.Equal(whole(m), first) {
		t.Error("the memory that they are made from is changed")
	}
}

// TestOver lays objects over others: of what was there nothing is left.
func TestOver(t *testing.T) {
	m := memory(5120)
	for k, kind := range []int{0, 1, 0, 2, 3, 1, 0} {
		m = check(t, kind, m, 2048+8*(k%3), 1+k, 0)
	}
}
