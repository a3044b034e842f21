package lib

import (
	"bytes"
	"encoding/binary"
	"math"
	"slices"
	"strings"
	"testing"

	"tenterhook/api"
	"tenterhook/outer"
)

const (
	least    = math.MinInt
	greatest = math.MaxInt
)

// memory is a memory of n bytes, no two neighbours the same, with room behind its end.
func memory(n int) []byte {
	out := make([]byte, n+1200)
	for k := range out {
		out[k] = byte(151*k + 77)
	}
	return out[:n]
}

// whole is a memory with the room behind it.
func whole(m []byte) []byte { return slices.Clone(m[:cap(m)]) }

// cell is the cell at a place, and cells are n of them.
func cell(m []byte, at int) int { return int(binary.LittleEndian.Uint64(m[at:])) }

func cells(m []byte, at, n int) []int {
	var out []int
	for k := range n {
		out = append(out, cell(m, at+8*k))
	}
	return out
}

// withCells is a memory with these cells at a place.
func withCells(m []byte, at int, l ...int) []byte {
	m = slices.Clone(m)
	for k, x := range l {
		binary.LittleEndian.PutUint64(m[at+8*k:], uint64(x))
	}
	return m
}

// with is a memory with an object that may be laid.
func with(m []byte, e api.Throw) []byte {
	if e != api.OK {
		panic(e)
	}
	return m
}

// booted is Boot's system.
func booted(t *testing.T) outer.Sys {
	t.Helper()
	s, e := Boot()
	if e != api.OK {
		t.Fatalf("Boot throws %d", int(e))
	}
	return s
}

// The places at which most tests' objects lie.
const (
	stackAt = 2048
	ringAt  = 3000
	lockAt  = 3600
	eventAt = 3616
)

// objects is a system with a stack and a ring of three, a lock, and an event with one signal.
func objects(s outer.Sys) outer.Sys {
	s.S.M = with(Stack(s.S.M, stackAt, 3))
	s.S.M = with(Ring(s.S.M, ringAt, 3))
	s.S.M = with(Lock(s.S.M, lockAt))
	s.S.M = with(Event(s.S.M, eventAt, 1))
	return s
}

// fresh is a booted system with these objects.
func fresh(t *testing.T) outer.Sys {
	t.Helper()
	return objects(booted(t))
}

// does is a system behind a text that throws nothing, and leaves these cells.
func does(t *testing.T, s outer.Sys, text string, want ...int) outer.Sys {
	t.Helper()
	u, e := outer.Eval(s, text)
	if e != api.OK || !slices.Equal(u.S.T.D, want) {
		t.Fatalf("%q: throws %d, leaves %v, not %v", text, int(e), u.S.T.D, want)
	}
	return u
}

// throws is a system behind a text that throws.
func throws(t *testing.T, s outer.Sys, text string, want api.Throw) outer.Sys {
	t.Helper()
	u, e := outer.Eval(s, text)
	if e != want || len(u.S.T.D) != 0 {
		t.Errorf("%q: throws %d, not %d; leaves %v", text, int(e), int(want), u.S.T.D)
	}
	return u
}

// emptied is a system without cells on the stack, and with nothing noted.
func emptied(s outer.Sys) outer.Sys {
	s.S.T.D, s.S.Hist = nil, nil
	return s
}

// noted holds what was noted against pairs of a kind and a value, at one place by the host.
func noted(t *testing.T, s outer.Sys, at int, pairs ...int) {
	t.Helper()
	var want []api.Event
	for k := 0; k < len(pairs); k += 2 {
		want = append(want, api.Event{Task: -1, Kind: pairs[k], At: at, Val: pairs[k+1]})
	}
	if !slices.Equal(s.S.Hist, want) {
		t.Errorf("noted %v, not %v", s.S.Hist, want)
	}
}

// differ tells the fields in which two systems are not alike. Lists without elements are, nil or not.
func differ(a, b outer.Sys) string {
	var out []string
	for _, x := range []struct {
		name string
		same bool
	}{
		{"Threads", slices.EqualFunc(a.P.Threads, b.P.Threads, slices.Equal)}, {"Words", slices.Equal(a.P.Words, b.P.Words)}, {"Lib", a.P.Lib == b.P.Lib},
		{"D", slices.Equal(a.S.T.D, b.S.T.D)}, {"R", slices.Equal(a.S.T.R, b.S.T.R)}, {"P", a.S.T.P == b.S.T.P}, {"H", a.S.T.H == b.S.T.H},
		{"M", bytes.Equal(a.S.M, b.S.M)}, {"Out", a.S.Out == b.S.Out}, {"Me", a.S.Me == b.S.Me}, {"Tick", a.S.Tick == b.S.Tick}, {"Hist", slices.Equal(a.S.Hist, b.S.Hist)},
		{"Comp", a.Comp == b.Comp}, {"Code", slices.Equal(a.B.Code, b.B.Code)}, {"Marks", slices.Equal(a.B.Marks, b.B.Marks)}, {"Outs", slices.Equal(a.B.Outs, b.B.Outs)}, {"Def", a.Def == b.Def}, {"Here", a.Here == b.Here},
	} {
		if !x.same {
			out = append(out, x.name)
		}
	}
	return strings.Join(out, " ")
}
