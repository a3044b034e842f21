package lin

import (
	"testing"

	"tenterhook/hist"
)

// alone is a row of operations that do not overlap, each with the answer that it has of an object of room n, but for as many as wrong of them, whose answers are others.
func alone(x *mix, n, many, wrong int) []hist.Op {
	l := ops()
	var held object
	place := x.below(3)
	for range many {
		o := op(x.below(4), x.of(1, 2, -3), 0, false, place, place+x.below(3))
		place = o.To + 1 + x.below(3)
		o.Ok = o.Kind%2 == 0 && held.many < n || o.Kind%2 == 1 && held.many > 0
		if o.Kind%2 == 1 && o.Ok {
			o.Res = held.list()[0]
			if o.Kind == hist.Pop {
				o.Res = held.list()[held.many-1]
			}
		}
		if !held.does(o, n) {
			panic("the model does not do what it holds")
		}
		l = append(l, o)
	}
	for range wrong {
		o := &l[x.below(many)]
		if o.Kind%2 == 1 && x.below(2) == 0 {
			o.Ok, o.Res = true, o.Res+1
		} else {
			o.Ok = !o.Ok
		}
	}
	return l
}

// played tells whether operations could have been done in the order of the list.
func played(l []hist.Op, n int) bool {
	var held []int
	for _, o := range l {
		next, could := Apply(held, o, n)
		if !could {
			return false
		}
		held = next
	}
	return true
}

// TestAlone asks that operations that do not overlap have the one order in which they lie, or none.
func TestAlone(t *testing.T) {
	refused := 0
	for turn := range 2000 {
		x := mix(turn)
		n, wrong := x.below(4), x.below(2)
		l := alone(&x, n, 1+x.below(5), wrong)
		want := No
		if played(l, n) {
			want = Yes
		} else {
			refused++
		}
		if got := follow(t, l, n); got != want || wrong == 0 && got != Yes {
			t.Fatalf("%+v of %d: told %d, not %d", l, n, got, want)
		}
		if got := lin(t, shuffled(&x, l), n); got != want {
			t.Fatalf("%+v of %d: not %d in another order of the list", l, n, want)
		}
		if orders(l, n) != want { // Yes is 1
			t.Fatalf("%+v of %d: %d orders", l, n, orders(l, n))
		}
		for k := range l { // one alone may be next: the first one that is not done
			done := make([]bool, k)
			for i := range done {
				done[i] = true
			}
			for i := range l {
				if after(t, l, done, i) != (i == k) {
					t.Fatalf("%+v: behind %d of them, at %d", l, k, i)
				}
			}
		}
	}
	if refused < 300 {
		t.Errorf("%d were refused", refused)
	}
}

// TestAloneEight asks of eight that do not overlap.
func TestAloneEight(t *testing.T) {
	for turn := range 500 {
		x := mix(turn)
		n := x.below(5)
		l := alone(&x, n, 8, 0)
		if got := lin(t, shuffled(&x, l), n); got != Yes {
			t.Fatalf("%+v of %d: told %d", l, n, got)
		}
		k := x.below(8)
		l[k].Ok = !l[k].Ok
		if got := lin(t, shuffled(&x, l), n); (got == Yes) != played(l, n) || got == Many {
			t.Fatalf("%+v of %d: told %d", l, n, got)
		}
	}
}

// TestTakenLast asks that what is taken away behind all others changes nothing of them: they have an order just if they have one with it, with one of the answers that it may have.
func TestTakenLast(t *testing.T) {
	var seen [2]int
	for turn := range 4000 {
		x := mix(turn)
		var l []hist.Op
		for range x.below(6) {
			l = append(l, x.any(9))
		}
		n := x.below(4)
		want := follow(t, ops(l...), n)
		seen[want]++
		for _, kind := range []int{hist.Pop, hist.Deq} {
			for _, res := range []int{0, 1, 2} {
				o := op(kind, 0, res, x.below(2) == 0, 50, -1)
				if got := lin(t, append(ops(l...), o), n); got != want {
					t.Fatalf("%+v of %d: told %d, and %d with %+v", l, n, want, got, o)
				}
			}
			best := lin(t, append(ops(l...), none(kind, 50, 51)), n)
			for res := range 3 {
				best = max(best, lin(t, append(ops(l...), op(kind, 0, res, true, 50, 51)), n))
			}
			if best != want {
				t.Fatalf("%+v of %d: told %d, and %d with what is taken away behind", l, n, want, best)
			}
		}
	}
	if min(seen[No], seen[Yes]) < 500 {
		t.Errorf("%v", seen)
	}
}
