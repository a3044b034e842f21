package lin

import (
	"slices"

	"tenterhook/hist"
)

// roomMost is the most room that an object is taken to have.
const roomMost = 1000

// Apply is what an object of room n that holds l holds behind an operation, and whether the operation could have told what it told.
func Apply(l []int, o hist.Op, n int) ([]int, bool) {
	held, could := slices.Clone(l), false
	switch o.Kind {
	case hist.Push:
		held, could = put(held, o.Arg, o.Ok, n)
	case hist.Enq: // a ring's slot has no room for more of a value
		held, could = put(held, int(uint32(o.Arg)), o.Ok, n)
	case hist.Pop:
		held, could = take(held, len(held)-1, o)
	case hist.Deq:
		held, could = take(held, 0, o)
	default: // not even without an end
		return held, false
	}
	return held, could || !ended(o)
}

// put lays a value behind what is held, if there is room, and tells whether ok is told of that.
func put(held []int, v int, ok bool, n int) ([]int, bool) {
	if len(held) >= min(max(n, 0), roomMost) {
		return held, !ok
	}
	return append(held, v), ok
}

// take takes what is held at a place away, if anything is held, and tells whether o tells that.
func take(held []int, place int, o hist.Op) ([]int, bool) {
	if len(held) == 0 {
		return held, !o.Ok
	}
	v := held[place]
	return slices.Delete(held, place, place+1), o.Ok && o.Res == v
}
