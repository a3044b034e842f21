package lib

import (
	"slices"

	"tenterhook/api"
	"tenterhook/mem"
)

// Kinds of objects, by which Size is asked of them.
const (
	stack = iota
	ring
	lock
	event
)

// A stack or a ring is of mostItems at most, an event begins with mostSignals at most, and Size takes an n above mostSize for that. A stack has spareNodes nodes more than it may hold.
const (
	mostItems   = 60
	mostSignals = 1<<31 - 1
	mostSize    = 100
	spareNodes  = 7
)

// The cells of a stack and of a ring: freeCell is the stack's free head, limitCell the n of both, and what is held is behind headCells cells. A node has nodeCells cells, and firstNode is the number of the first one.
const (
	freeCell  = 1
	limitCell = 2
	headCells = 3
	nodeCells = 2
	firstNode = 1
)

const heapEnd = api.HeapBase + api.HeapSize

// Stack is with a stack.
func Stack(m []byte, at, n int) ([]byte, api.Throw) {
	if !within(n, 1, mostItems) {
		return m, api.Number
	}
	return laid(m, at, Size(stack, n), func(k int) int {
		switch k {
		case freeCell:
			return firstNode
		case limitCell:
			return n
		}
		return nextFree(k, n+spareNodes)
	})
}

// Ring is with a ring.
func Ring(m []byte, at, n int) ([]byte, api.Throw) {
	if !within(n, 1, mostItems) {
		return m, api.Number
	}
	return laid(m, at, Size(ring, n), func(k int) int {
		if k == limitCell {
			return n
		}
		return 0
	})
}

// Lock is with a lock.
func Lock(m []byte, at int) ([]byte, api.Throw) {
	return laid(m, at, Size(lock, 0), func(int) int { return 0 })
}

// Event is with an event.
func Event(m []byte, at, n int) ([]byte, api.Throw) {
	if !within(n, 0, mostSignals) {
		return m, api.Number
	}
	return laid(m, at, Size(event, 0), func(int) int { return n })
}

// Size is how many bytes an object has.
func Size(kind, n int) int {
	n = min(max(n, 0), mostSize)
	cells := 0
	switch kind {
	case stack:
		cells = headCells + nodeCells*(n+spareNodes)
	case ring:
		cells = headCells + n
	case lock:
		cells = 2
	case event:
		cells = 1
	}
	return cells * api.CellSize
}

// nextFree is what the cell k of a stack holds, if all of so many nodes are free: the first cell of each but the last one holds the next one's number.
func nextFree(k, nodes int) int {
	behind := k - headCells
	node := behind/nodeCells + firstNode
	if behind < 0 || behind%nodeCells != 0 || node == nodes {
		return 0
	}
	return node + 1
}

// laid is the memory with an object of so many bytes at a place; holds knows what each of its cells is to hold.
func laid(m []byte, at, size int, holds func(k int) int) ([]byte, api.Throw) {
	// Not asked of at and size together: their sum may go round.
	if at < api.HeapBase || at > min(heapEnd, len(m))-size {
		return m, api.Address
	}
	if at%api.CellSize != 0 {
		return m, api.Align
	}
	// Laid apart from the memory, as mem.Put makes all of what it is given anew for each cell.
	object := mem.New(size)
	for k := range size / api.CellSize {
		object, _ = mem.Put(object, k*api.CellSize, holds(k))
	}
	return slices.Concat(m[:at], object, m[at+size:]), api.OK
}

func within(n, least, most int) bool { return n >= least && n <= most }
