package lin

import (
	"math"
	"slices"
	"testing"

	"tenterhook/hist"
)

const (
	least    = math.MinInt
	greatest = math.MaxInt
)

// op is an operation from its kind to the place of its return.
func op(kind, arg, res int, ok bool, from, to int) hist.Op {
	return hist.Op{Kind: kind, Arg: arg, Res: res, Ok: ok, From: from, To: to}
}

// push, enq, pop and deq could be done; full and none could not, for want of room, or of values.
func push(v, from, to int) hist.Op { return op(hist.Push, v, 0, true, from, to) }
func enq(v, from, to int) hist.Op  { return op(hist.Enq, v, 0, true, from, to) }
func pop(v, from, to int) hist.Op  { return op(hist.Pop, 0, v, true, from, to) }
func deq(v, from, to int) hist.Op  { return op(hist.Deq, 0, v, true, from, to) }
func full(kind, v, from, to int) hist.Op {
	return op(kind, v, 0, false, from, to)
}
func none(kind, from, to int) hist.Op { return op(kind, 0, 0, false, from, to) }

// open is an operation without an end, as hist tells it.
func open(kind, v, from int) hist.Op { return op(kind, v, 0, false, from, -1) }

// ops is a list of operations, with room behind its end.
func ops(l ...hist.Op) []hist.Op { return append(make([]hist.Op, 0, len(l)+3), l...) }

// vals is a list of values, with room behind its end.
func vals(l ...int) []int { return append(make([]int, 0, len(l)+3), l...) }

// count is the list of 0 to n - 1, with room behind its end.
func count(n int) []int {
	l := make([]int, n, n+3)
	for k := range l {
		l[k] = k
	}
	return l
}

// flags is each list of n flags.
func flags(n int) [][]bool {
	out := [][]bool{{}}
	for range n {
		var next [][]bool
		for _, l := range out {
			next = append(next, append(slices.Clone(l), false), append(slices.Clone(l), true))
		}
		out = next
	}
	return out
}

// whole is a list with the room behind its end, as it is now.
func whole[T any](l []T) []T { return slices.Clone(l[:cap(l)]) }

// lin asks Lin, and holds the list that it was given against what it was.
func lin(t *testing.T, l []hist.Op, n int) int {
	t.Helper()
	was := whole(l)
	got := Lin(l, n)
	if !slices.Equal(l[:cap(l)], was) {
		t.Fatalf("%+v: the operations that are given are changed", was)
	}
	if got < No || got > Many || got == Many != (len(l) > Most) {
		t.Fatalf("%+v of %d: told %d", l, n, got)
	}
	return got
}

// follow holds what Lin tells against the model.
func follow(t *testing.T, l []hist.Op, n int) int {
	t.Helper()
	got := lin(t, l, n)
	if want := modelLin(l, n); got != want {
		t.Fatalf("%+v of %d: told %d, not %d", l, n, got, want)
	}
	return got
}

// after asks After, and holds the lists that it was given against what they were.
func after(t *testing.T, l []hist.Op, done []bool, i int) bool {
	t.Helper()
	was, flags := whole(l), whole(done)
	got := After(l, done, i)
	if !slices.Equal(l[:cap(l)], was) || !slices.Equal(done[:cap(done)], flags) {
		t.Fatalf("%+v %v at %d: the lists that are given are changed", was, flags, i)
	}
	return got
}

// apply asks Apply, and holds the list that it was given against what it was; and that nothing shares memory with anything.
func apply(t *testing.T, l []int, o hist.Op, n int) ([]int, bool) {
	t.Helper()
	was := whole(l)
	got, could := Apply(l, o, n)
	want := slices.Clone(got)
	other, again := Apply(l, o, n)
	if !slices.Equal(other, want) || again != could {
		t.Fatalf("%v %+v of %d: told %v %v, then %v %v", l, o, n, want, could, other, again)
	}
	stir(got)
	if !slices.Equal(other, want) {
		t.Fatalf("%v %+v of %d: an answer shares memory with another", l, o, n)
	}
	if !slices.Equal(l[:cap(l)], was) {
		t.Fatalf("%v %+v of %d: the list that is given is changed", was, o, n)
	}
	stir(l)
	if !slices.Equal(other, want) {
		t.Fatalf("%v %+v of %d: an answer shares memory with the list that is given", was, o, n)
	}
	copy(l[:cap(l)], was)
	return want, could
}

// stir writes all over a list, and behind its end.
func stir(l []int) {
	l = l[:cap(l)]
	for k := range l {
		l[k] = ^l[k]
	}
}

// mix tells numbers below n that look like any, always the same ones.
type mix uint64

func (x *mix) below(n int) int {
	*x = *x*6364136223846793005 + 1442695040888963407
	return int(uint64(*x) >> 33 % uint64(n))
}

// of picks one of some.
func (x *mix) of(l ...int) int { return l[x.below(len(l))] }

// shuffled is a list in another order.
func shuffled(x *mix, l []hist.Op) []hist.Op {
	out := ops(l...)
	for k := range out {
		j := k + x.below(len(out)-k)
		out[k], out[j] = out[j], out[k]
	}
	return out
}
