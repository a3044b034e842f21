package hist

import (
	"slices"
	"testing"

	"tenterhook/api"
)

// asks holds what Ops tells of the object at 8, and all else against the model.
func asks(t *testing.T, name string, h []api.Event, want ...Op) {
	t.Helper()
	if got := follow(t, h, 8, 0); !got.isOps || !slices.Equal(got.ops, want) {
		t.Errorf("%s: %v: told %v %v, not %v", name, h, got.ops, got.isOps, want)
	}
}

// refused asks that Ops tells nothing, and false.
func refused(t *testing.T, name string, h []api.Event) {
	t.Helper()
	if got := follow(t, h, 8, 0); got.isOps || got.ops != nil {
		t.Errorf("%s: %v: told %v %v", name, h, got.ops, got.isOps)
	}
}

// pair is an operation that is called and has returned.
type pair struct {
	call, back, op int
}

// pairs are all calls with all their returns.
func pairs() []pair {
	return []pair{{1, 2, Push}, {3, 4, Pop}, {3, 5, Pop}, {6, 7, Enq}, {8, 9, Deq}, {8, 10, Deq}, {11, 12, Acq}, {13, 14, Rel}, {15, 16, Wait}, {17, 18, Signal}}
}

// TestNumbers asks that the operations have the document's numbers.
func TestNumbers(t *testing.T) {
	if got, want := []int{Push, Pop, Enq, Deq, Acq, Rel, Wait, Signal}, []int{0, 1, 2, 3, 4, 5, 6, 7}; !slices.Equal(got, want) {
		t.Errorf("%v, not %v", got, want)
	}
}

// TestOpsEach asks of each operation with each of its returns, and without any.
func TestOpsEach(t *testing.T) {
	for _, p := range pairs() {
		asks(t, "a call", ev(3, p.call, 8, 44), Op{3, p.op, 44, 0, false, 0, -1})
		o := Op{3, p.op, 44, 0, true, 0, 1}
		switch p.back {
		case 4, 9, 12:
			o.Res = 55
		case 5, 10:
			o.Ok = false
		}
		asks(t, "called and returned", ev(3, p.call, 8, 44, 3, p.back, 8, 55), o)
		o.From, o.To = 1, 4
		asks(t, "among others", ev(3, p.back, 16, 1, 3, p.call, 8, 44, 3, p.back, 16, 7, 3, 99, 16, 7, 3, p.back, 8, 55, 3, p.back, 16, 8), o)
	}
}

// TestOpsOk asks when what returned was done, and what came of it.
func TestOpsOk(t *testing.T) {
	for _, x := range []struct {
		call, back, val int
		op, res         int
		ok              bool
	}{
		{1, 2, 0, Push, 0, false}, {1, 2, -1, Push, 0, true}, {1, 2, 1, Push, 0, true}, {1, 2, 77, Push, 0, true}, {1, 2, least, Push, 0, true}, {1, 2, 1 << 32, Push, 0, true},
		{6, 7, 0, Enq, 0, false}, {6, 7, -1, Enq, 0, true}, {6, 7, 1, Enq, 0, true}, {6, 7, -77, Enq, 0, true}, {6, 7, greatest, Enq, 0, true}, {6, 7, 1 << 32, Enq, 0, true},
		{3, 4, 0, Pop, 0, true}, {3, 4, -1, Pop, -1, true}, {3, 4, least, Pop, least, true}, {3, 5, 0, Pop, 0, false}, {3, 5, 6, Pop, 0, false}, {3, 5, -1, Pop, 0, false},
		{8, 9, 0, Deq, 0, true}, {8, 9, 7, Deq, 7, true}, {8, 9, greatest, Deq, greatest, true}, {8, 10, 0, Deq, 0, false}, {8, 10, 6, Deq, 0, false}, {8, 10, -1, Deq, 0, false},
		{11, 12, 0, Acq, 0, true}, {11, 12, 3, Acq, 3, true}, {11, 12, -3, Acq, -3, true},
		{13, 14, 0, Rel, 0, true}, {13, 14, 5, Rel, 0, true}, {15, 16, 0, Wait, 0, true}, {15, 16, 5, Wait, 0, true}, {17, 18, 0, Signal, 0, true}, {17, 18, -5, Signal, 0, true},
	} {
		for _, arg := range []int{0, 9, -1, least} {
			asks(t, "a value", ev(-1, x.call, 8, arg, -1, x.back, 8, x.val), Op{-1, x.op, arg, x.res, x.ok, 0, 1})
		}
	}
}

// TestOpsOverlap asks of operations of several tasks and of several objects.
func TestOpsOverlap(t *testing.T) {
	// The document's example, and a look at the other object.
	asks(t, "overlap", ev(0, 1, 8, 5, 1, 3, 8, 0, 1, 4, 8, 5, 0, 2, 8, -1), Op{0, Push, 5, 0, true, 0, 3}, Op{1, Pop, 0, 5, true, 1, 2})
	asks(t, "one by one", ev(0, 1, 8, 5, 0, 2, 8, -1, 1, 3, 8, 0, 1, 4, 8, 5), Op{0, Push, 5, 0, true, 0, 1}, Op{1, Pop, 0, 5, true, 2, 3})
	asks(t, "three", ev(2, 6, 8, 5, 1, 8, 8, 0, 0, 6, 8, 6, 2, 7, 8, 0, 0, 7, 8, 1, 1, 10, 8, 4), Op{2, Enq, 5, 0, false, 0, 3}, Op{1, Deq, 0, 0, false, 1, 5}, Op{0, Enq, 6, 0, true, 2, 4})
	h := ev(0, 1, 8, 5, 1, 6, 16, 6, 0, 2, 8, -1, 1, 7, 16, -1, 0, 8, 16, 0, 1, 3, 8, 0, 0, 9, 16, 6, 1, 4, 8, 5, 0, 3, 8, 0)
	asks(t, "by turns", h, Op{0, Push, 5, 0, true, 0, 2}, Op{1, Pop, 0, 5, true, 5, 7}, Op{0, Pop, 0, 0, false, 8, -1})
	if got := follow(t, h, 16, 0); !got.isOps || !slices.Equal(got.ops, []Op{{1, Enq, 6, 0, true, 1, 3}, {0, Deq, 0, 6, true, 4, 6}}) {
		t.Errorf("the other object: %v", got.ops)
	}
	asks(t, "tasks of any numbers", ev(greatest, 1, 8, 5, least, 3, 8, 0, least, 4, 8, 5, greatest, 2, 8, 1), Op{greatest, Push, 5, 0, true, 0, 3}, Op{least, Pop, 0, 5, true, 1, 2})
}

// TestOpsNone asks of an h without an event, and one of other objects alone.
func TestOpsNone(t *testing.T) {
	for _, h := range [][]api.Event{nil, {}, ev(0, 1, 16, 5, 0, 2, 16, 1), ev(0, 99, 16, 0), ev(0, 2, 0, 0, 0, 0, -8, 0)} {
		asks(t, "nothing", h)
	}
	for _, at := range []int{least, -8, -1, 0, 7, 9, 1 << 32, 1<<32 + 8, greatest} {
		if l, ok := Ops(ev(0, 1, 8, 5, 0, 99, 8, 0), at); len(l) != 0 || !ok {
			t.Errorf("at %d: %v %v", at, l, ok)
		}
		if l, ok := Ops(ev(0, 1, at, 5), at); !ok || !slices.Equal(l, []Op{{0, Push, 5, 0, false, 0, -1}}) {
			t.Errorf("at %d: %v %v", at, l, ok)
		}
	}
}

// TestOpsWithout asks of calls that have no return, since there is none or another call lies in between.
func TestOpsWithout(t *testing.T) {
	push := Op{0, Push, 5, 0, false, 0, -1}
	asks(t, "the same again", ev(0, 1, 8, 5, 0, 1, 8, 6, 0, 2, 8, -1), push, Op{0, Push, 6, 0, true, 1, 2})
	asks(t, "another one of it", ev(0, 1, 8, 5, 0, 3, 8, 0, 0, 4, 8, 5), push, Op{0, Pop, 0, 5, true, 1, 2})
	asks(t, "again, without a return", ev(0, 1, 8, 5, 0, 1, 8, 6), push, Op{0, Push, 6, 0, false, 1, -1})
	asks(t, "a call of another object", ev(0, 1, 8, 5, 0, 3, 16, 0), push)
	asks(t, "that returned", ev(0, 1, 8, 5, 0, 3, 16, 0, 0, 4, 16, 0), push)
	asks(t, "and behind it one of this object", ev(0, 1, 8, 5, 0, 11, 16, 0, 0, 1, 8, 6, 0, 2, 8, -1), push, Op{0, Push, 6, 0, true, 2, 3})
	asks(t, "another task's return of another object", ev(0, 1, 8, 5, 1, 2, 16, -1), push)
	asks(t, "its return of another object", ev(0, 1, 8, 5, 0, 2, 16, -1), push)
	asks(t, "what is of no kind, of another object", ev(0, 1, 8, 5, 0, 0, 16, -1, 0, 19, 16, -1), push)
	asks(t, "in between, at another object", ev(0, 1, 8, 5, 0, 0, 16, -1, 0, 5, 16, -1, 0, 2, 8, -1), Op{0, Push, 5, 0, true, 0, 3})
	asks(t, "another task calls", ev(0, 1, 8, 5, 1, 1, 16, -1, 0, 2, 8, -1), Op{0, Push, 5, 0, true, 0, 2})
	for _, p := range pairs() {
		refused(t, "a call of another object ahead of the return", ev(0, 1, 8, 5, 0, p.call, 16, 0, 0, 2, 8, -1))
		refused(t, "it and its return", ev(0, 1, 8, 5, 0, p.call, 16, 0, 0, p.back, 16, 0, 0, 2, 8, -1))
	}
}

// TestOpsFalse asks of returns that no call tells of, those of another operation, and what is of no kind.
func TestOpsFalse(t *testing.T) {
	for _, p := range pairs() {
		refused(t, "a return alone", ev(0, p.back, 8, 1))
		refused(t, "ahead of its call", ev(0, p.back, 8, 1, 0, p.call, 8, 1))
		refused(t, "twice", ev(0, p.call, 8, 1, 0, p.back, 8, 1, 0, p.back, 8, 1))
		refused(t, "twice, with another one between", ev(0, p.call, 8, 1, 0, p.back, 8, 1, 1, 1, 8, 0, 0, p.back, 8, 1))
		refused(t, "another task's", ev(0, p.call, 8, 1, 1, p.back, 8, 1))
		refused(t, "another task's, and its own", ev(0, p.call, 8, 1, 1, p.back, 8, 1, 0, p.back, 8, 1))
		refused(t, "of a call of another object", ev(0, p.call, 16, 1, 0, p.back, 8, 1))
		for _, u := range pairs() {
			if u.op != p.op {
				refused(t, "of another operation", ev(0, p.call, 8, 1, 0, u.back, 8, 1))
				refused(t, "of another operation, and its own", ev(0, p.call, 8, 1, 0, u.back, 8, 1, 0, p.back, 8, 1))
				refused(t, "that was called ahead of it", ev(0, u.call, 8, 1, 0, p.call, 8, 1, 0, u.back, 8, 1))
			}
		}
	}
	for _, kind := range []int{least, least + 1, -2, -1, 0, 19, 20, 99, 1 << 32, 1<<32 + 1, 1<<32 + 2, greatest - 1, greatest} {
		refused(t, "no kind", ev(0, kind, 8, 1))
		refused(t, "another task's", ev(0, 1, 8, 1, 1, kind, 8, 1, 0, 2, 8, 1))
		refused(t, "between", ev(0, 1, 8, 1, 0, kind, 8, 1, 0, 2, 8, 1))
		refused(t, "at the end", ev(0, 1, 8, 1, 0, 2, 8, 1, 0, kind, 8, 1))
		asks(t, "of another object", ev(0, 1, 8, 1, 0, kind, 16, 1, 0, 2, 8, 1), Op{0, Push, 1, 0, true, 0, 2})
	}
}

// TestApart asks that lists that are told share nothing: what is put into one is in no other one.
func TestApart(t *testing.T) {
	h := ev(0, 1, 8, 5, 1, 3, 8, 0, 1, 4, 8, 5, 0, 2, 8, -1, 0, 1, 8, 6)
	first := ask(t, h, 8, 0)
	kept := slices.Clone(first.ops)
	for k := range first.ops {
		first.ops[k] = Op{}
	}
	for k := range first.pending {
		first.pending[k] = k > 0
	}
	again := follow(t, h, 8, 0)
	if len(kept) != 3 || !slices.Equal(again.ops, kept) || !slices.Equal(again.pending, []bool{true, false, false, false, false, false, false, false}) {
		t.Errorf("told %+v", again)
	}
}
