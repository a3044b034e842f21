package lin

import (
	"testing"

	"tenterhook/hist"
)

// TestAfter asks at the document's edges.
func TestAfter(t *testing.T) {
	three := ops(push(1, 0, 3), push(2, 4, 9), pop(1, 2, 5))
	for k, x := range []struct {
		l    []hist.Op
		done []bool
		i    int
		want bool
	}{
		// A place that is not there.
		{three, nil, -1, false}, {three, nil, 3, false}, {three, nil, 4, false}, {three, nil, least, false}, {three, nil, greatest, false}, {nil, nil, 0, false}, {nil, nil, -1, false}, {nil, []bool{false, false}, 0, false}, {nil, []bool{false, false}, 1, false}, {ops(), []bool{}, 0, false},
		// What returned ahead of a call goes ahead of it, and no other.
		{three, nil, 0, true}, {three, nil, 1, false}, {three, nil, 2, true}, {three, []bool{true, false, false}, 1, true}, {three, []bool{false, false, true}, 1, false}, {three, []bool{true, true, false}, 2, true}, {three, []bool{false, true, false}, 2, true}, {three, []bool{false, true, true}, 0, true},
		// What is done.
		{three, []bool{true, false, false}, 0, false}, {three, []bool{false, true, false}, 1, false}, {three, []bool{true, true, true}, 2, false}, {three, []bool{true, true, true}, 0, false},
		// Flags that are fewer than there are operations, or more.
		{three, []bool{}, 0, true}, {three, []bool{}, 1, false}, {three, []bool{}, 2, true}, {three, []bool{true}, 0, false}, {three, []bool{true}, 1, true}, {three, []bool{false}, 1, false}, {three, []bool{true, true}, 1, false}, {three, []bool{true, true}, 2, true}, {three, []bool{true, false, false, true, true}, 1, true}, {three, []bool{true, true, true, false}, 3, false}, {three, []bool{true, true, true, false, false}, 4, false}, {three, []bool{false, false, false, true}, 0, true},
		// An end that is as far as a call is not ahead of it.
		{ops(push(1, 0, 4), push(2, 4, 9)), nil, 1, true}, {ops(push(1, 0, 3), push(2, 4, 9)), nil, 1, false}, {ops(push(1, 0, 5), push(2, 4, 9)), nil, 1, true},
		// One that ends ahead of its own call is never next; one that ends with it may be.
		{ops(push(1, 4, 3)), nil, 0, false}, {ops(push(1, 4, 0)), nil, 0, false}, {ops(push(1, 4, 4)), nil, 0, true}, {ops(push(1, 0, 0)), nil, 0, true}, {ops(push(1, 1, 0), push(2, 0, 1)), nil, 0, false}, {ops(push(1, 1, 0), push(2, 0, 1)), nil, 1, true}, {ops(push(1, 1, 0), push(2, 1, 1)), nil, 1, false}, {ops(push(1, 1, 0), push(2, 1, 1)), []bool{true}, 1, true},
		// One that has not come to its end is ahead of none, and behind those that have.
		{ops(open(hist.Push, 1, 0), push(2, 4, 9)), nil, 1, true}, {ops(open(hist.Push, 1, 0), push(2, 4, 9)), nil, 0, true}, {ops(push(1, 0, 3), open(hist.Pop, 0, 4)), nil, 1, false}, {ops(push(1, 0, 3), open(hist.Pop, 0, 3)), nil, 1, true}, {ops(push(1, 0, 3), open(hist.Pop, 0, 4)), []bool{true}, 1, true},
		{ops(op(0, 0, 0, true, 0, -2), push(2, 4, 9)), nil, 1, true}, {ops(op(0, 0, 0, true, 0, least), push(2, 4, 9)), nil, 1, true}, {ops(open(hist.Push, 1, greatest)), nil, 0, true}, {ops(open(hist.Push, 1, greatest), push(1, 0, greatest)), nil, 0, true}, {ops(open(hist.Push, 1, greatest), push(1, 0, greatest-1)), nil, 0, false},
		// Any places.
		{ops(push(1, least, 0), push(2, least, greatest)), nil, 0, true}, {ops(push(1, least, 0), push(2, least, greatest)), nil, 1, true}, {ops(push(1, -5, 0), push(2, 0, 0)), nil, 1, true}, {ops(push(1, -5, 0), push(2, 1, 2)), nil, 1, false}, {ops(push(1, -5, 0), push(2, -1, 2)), nil, 1, true}, {ops(push(1, 0, 0), open(0, 0, least)), nil, 1, true},
		{ops(push(1, 2, 3), push(1, 2, 3)), nil, 0, true}, {ops(push(1, 2, 3), push(1, 2, 3)), nil, 1, true}, {ops(push(1, 2, 3), push(1, 2, 2)), nil, 0, true},
		// What an operation is does not matter, nor whose it is.
		{ops(op(9, 0, 0, false, 0, 1), op(-3, 0, 0, true, 2, 3)), nil, 0, true}, {ops(op(9, 0, 0, false, 0, 1), op(-3, 0, 0, true, 2, 3)), nil, 1, false}, {ops(hist.Op{Task: 1, To: 9}, hist.Op{Task: 1, From: 2, To: 3}), nil, 1, true},
		// All of the others are asked, behind it as ahead of it.
		{ops(push(1, 5, 6), push(2, 9, 9), push(3, 0, 4)), nil, 0, false}, {ops(push(1, 5, 6), push(2, 9, 9), push(3, 0, 4)), []bool{false, false, true}, 0, true}, {ops(push(1, 5, 6), push(2, 0, 4), push(3, 9, 9)), nil, 0, false}, {ops(push(1, 0, 4), push(2, 9, 9), push(3, 5, 6)), nil, 2, false},
	} {
		if got := after(t, x.l, x.done, x.i); got != x.want {
			t.Errorf("%d: %+v %v at %d: told %v", k, x.l, x.done, x.i, got)
		}
		if want := modelAfter(x.l, x.done, x.i); want != x.want {
			t.Errorf("%d: %+v %v at %d: the model tells %v", k, x.l, x.done, x.i, want)
		}
	}
}

// afters holds After against the model at each place, with each list of flags.
func afters(t *testing.T, l []hist.Op, done [][]bool) {
	t.Helper()
	for _, d := range done {
		for i := -1; i <= len(l); i++ {
			if got, want := after(t, l, d, i), modelAfter(l, d, i); got != want {
				t.Fatalf("%+v %v at %d: told %v, not %v", l, d, i, got, want)
			}
		}
	}
}

// TestAfterAll holds After against the model for all two operations that lie near, and some that lie far.
func TestAfterAll(t *testing.T) {
	var done [][]bool
	for n := range 4 {
		done = append(done, flags(n)...)
	}
	var all []hist.Op
	for _, from := range []int{least, -1, 0, 1, 2, greatest} {
		for _, to := range []int{least, -1, 0, 1, 2, greatest} {
			all = append(all, push(1, from, to))
		}
	}
	for _, a := range all {
		afters(t, ops(a), done)
		for _, b := range all {
			afters(t, ops(a, b), done)
		}
	}
	afters(t, nil, done)
}

// TestAfterMix holds After against the model for lists of up to twelve.
func TestAfterMix(t *testing.T) {
	for turn := range 3000 {
		x := mix(turn)
		l := ops()
		for range x.below(13) {
			from := x.of(x.below(20), x.below(20), x.below(20), -1, least, greatest)
			l = append(l, op(x.below(9), 0, 0, false, from, x.of(-1, from, from+1+x.below(9), x.below(20), least, greatest)))
		}
		done := make([]bool, x.below(15))
		for k := range done {
			done[k] = x.below(3) > 0
		}
		afters(t, l, [][]bool{done})
	}
}

// TestAfterMany asks of more operations than Lin takes.
func TestAfterMany(t *testing.T) {
	var l []hist.Op
	for k := range 3000 {
		l = append(l, push(k, 2*k, 2*k+1))
	}
	done := make([]bool, 2999)
	for k := range l {
		if after(t, l[:3000:3000], done, k) != (k == 0) {
			t.Fatalf("at %d", k)
		}
	}
	for k := range done {
		done[k] = true
		if after(t, l[:3000:3000], done, k) || !after(t, l[:3000:3000], done, k+1) {
			t.Fatalf("behind %d", k)
		}
	}
}
