package shape

import (
	"bytes"
	"encoding/binary"
	"math"
	"slices"
	"testing"

	"tenterhook/api"
	"tenterhook/lib"
	"tenterhook/outer"
)

const (
	least    = math.MinInt
	greatest = math.MaxInt
)

// Parts of cells: a tag and a count of a head, a round of a slot, and what one that is laid has more.
const (
	tag   = 1 << 32
	many  = 1 << 16
	round = 1 << 33
	laid  = 1 << 32
)

// memory is a memory of n bytes, no two neighbours the same, with room behind its end.
func memory(n int) []byte {
	out := make([]byte, n+1200)
	for k := range out {
		out[k] = byte(151*k + 77)
	}
	return out[:n]
}

// cell is the cell at a place that is there.
func cell(m []byte, at int) int { return int(binary.LittleEndian.Uint64(m[at:])) }

// withCells is a memory with these cells at a place.
func withCells(m []byte, at int, l ...int) []byte {
	m = slices.Clone(m)
	for k, x := range l {
		binary.LittleEndian.PutUint64(m[at+8*k:], uint64(x))
	}
	return m
}

// putAt is a memory with cells put: a place, and what is put there, by turns.
func putAt(m []byte, puts ...int) []byte {
	for k := 0; k < len(puts); k += 2 {
		m = withCells(m, puts[k], puts[k+1])
	}
	return m
}

// with is a memory with an object that may be laid.
func with(m []byte, e api.Throw) []byte {
	if e != api.OK {
		panic(e)
	}
	return m
}

// lay lays an object of a kind as lib does.
func lay(kind int, m []byte, at, n int) []byte {
	switch kind {
	case 0:
		return with(lib.Stack(m, at, n))
	case 1:
		return with(lib.Ring(m, at, n))
	case 2:
		return with(lib.Lock(m, at))
	}
	return with(lib.Event(m, at, n))
}

// told is all that the calls tell of one place.
type told struct {
	stack, free, ring         []int
	isStack, isFree, isRing   bool
	next, served, signals     int
	isLock, isEvent           bool
	whole                     [4]bool
	kindBelow, kindAbove, any bool
}

// ask asks all calls of a place, and holds the bytes that they were given, and those in the room behind them, against what they were.
func ask(t *testing.T, m []byte, at int) told {
	t.Helper()
	was := slices.Clone(m[:cap(m)])
	var got told
	got.stack, got.isStack = Stack(m, at)
	got.free, got.isFree = Free(m, at)
	got.ring, got.isRing = Ring(m, at)
	got.next, got.served, got.isLock = Lock(m, at)
	got.signals, got.isEvent = Event(m, at)
	for kind := range got.whole {
		got.whole[kind] = Whole(m, kind, at)
	}
	got.kindBelow, got.kindAbove = Whole(m, -1, at), Whole(m, 4, at)
	for _, kind := range []int{5, 1 << 32, 1<<32 + 1, -4, least, greatest} {
		got.any = got.any || Whole(m, kind, at)
	}
	if !bytes.Equal(m[:cap(m)], was) {
		t.Errorf("at %d: the bytes that are given are changed", at)
	}
	if !got.isStack && got.stack != nil || !got.isFree && got.free != nil || !got.isRing && got.ring != nil {
		t.Errorf("at %d: a list beside false: %+v", at, got)
	}
	return got
}

// differ tells in which of two what is told is not alike. Lists without elements are, nil or not.
func differ(a, b told) string {
	out := ""
	for _, x := range []struct {
		name string
		same bool
	}{
		{"Stack", slices.Equal(a.stack, b.stack) && a.isStack == b.isStack}, {"Free", slices.Equal(a.free, b.free) && a.isFree == b.isFree}, {"Ring", slices.Equal(a.ring, b.ring) && a.isRing == b.isRing},
		{"Lock", a.next == b.next && a.served == b.served && a.isLock == b.isLock}, {"Event", a.signals == b.signals && a.isEvent == b.isEvent},
		{"Whole", a.whole == b.whole && a.kindBelow == b.kindBelow && a.kindAbove == b.kindAbove && a.any == b.any},
	} {
		if !x.same {
			out += " " + x.name
		}
	}
	return out
}

// follow holds all that is told of a place against the model.
func follow(t *testing.T, m []byte, at int) told {
	t.Helper()
	got, want := ask(t, m, at), model(m, at)
	if d := differ(got, want); d != "" {
		t.Fatalf("%d bytes, at %d:%s: told %+v, not %+v", len(m), at, d, got, want)
	}
	return got
}

// booted is Boot's system.
func booted(t *testing.T) outer.Sys {
	t.Helper()
	s, e := lib.Boot()
	if e != api.OK {
		t.Fatalf("Boot throws %d", int(e))
	}
	return s
}

// does is a system behind a text that throws nothing; nothing is kept of the stack and of what was noted.
func does(t *testing.T, s outer.Sys, text string) outer.Sys {
	t.Helper()
	u, e := outer.Eval(s, text)
	if e != api.OK {
		t.Fatalf("%q throws %d", text, int(e))
	}
	u.S.T.D, u.S.Hist = nil, nil
	return u
}

// mix tells numbers below n that look like any, always the same ones.
type mix uint64

func (x *mix) below(n int) int {
	*x = *x*6364136223846793005 + 1442695040888963407
	return int(uint64(*x) >> 33 % uint64(n))
}

// of picks one of some.
func (x *mix) of(l ...int) int { return l[x.below(len(l))] }
