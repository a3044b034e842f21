package lin

import (
	"slices"
	"testing"

	"tenterhook/hist"
)

// row is a list of operations of an object of room n, and what is to be told of it.
type row struct {
	name string
	n    int
	want int
	l    []hist.Op
}

// told holds what Lin tells of rows against what is to be told, and against the model, in any order of the list.
func told(t *testing.T, l []row) {
	t.Helper()
	for k, r := range l {
		if got := follow(t, r.l, r.n); got != r.want {
			t.Errorf("%d %s: %+v of %d: told %d, not %d", k, r.name, r.l, r.n, got, r.want)
		}
		x := mix(k)
		for range 5 {
			if m := shuffled(&x, r.l); lin(t, m, r.n) != r.want {
				t.Errorf("%d %s: %+v of %d: not %d in this order", k, r.name, m, r.n, r.want)
			}
		}
	}
}

// TestLinExample is the document's.
func TestLinExample(t *testing.T) {
	told(t, []row{
		{"overlaps", 3, Yes, ops(push(5, 0, 3), pop(5, 1, 2))},
		{"overlaps, called first", 3, Yes, ops(pop(5, 0, 3), push(5, 1, 2))},
		{"overlaps, returned first", 3, Yes, ops(pop(5, 0, 2), push(5, 1, 3))},
		{"returned ahead of the call", 3, No, ops(pop(5, 0, 1), push(5, 2, 3))},
	})
}

// TestLinFew asks of none, and of one.
func TestLinFew(t *testing.T) {
	told(t, []row{
		{"nothing", 1, Yes, nil}, {"nothing", 0, Yes, ops()}, {"nothing", least, Yes, nil},
		{"a push", 1, Yes, ops(push(5, 0, 1))}, {"a push without room", 0, No, ops(push(5, 0, 1))}, {"it was full", 0, Yes, ops(full(hist.Push, 5, 0, 1))}, {"it was not full", 1, No, ops(full(hist.Push, 5, 0, 1))},
		{"an enq", 1, Yes, ops(enq(5, 0, 1))}, {"an enq without room", 0, No, ops(enq(5, 0, 1))}, {"it was full", 0, Yes, ops(full(hist.Enq, 5, 0, 1))}, {"it was not full", 1, No, ops(full(hist.Enq, 5, 0, 1))},
		{"a pop of nothing", 1, Yes, ops(none(hist.Pop, 0, 1))}, {"a deq of nothing", 1, Yes, ops(none(hist.Deq, 0, 1))}, {"a pop out of nothing", 1, No, ops(pop(0, 0, 1))}, {"a deq out of nothing", 1, No, ops(deq(0, 0, 1))},
		{"another kind", 1, No, ops(op(hist.Acq, 0, 0, true, 0, 1))}, {"another kind without an end", 1, Yes, ops(open(hist.Acq, 0, 0))}, {"no kind", 1, No, ops(op(-1, 0, 0, false, 0, 1))}, {"no kind without an end", 1, Yes, ops(open(8, 0, 0))},
		{"its end is its call", 1, Yes, ops(push(5, 1, 1))}, {"its end is ahead of its call", 1, No, ops(push(5, 1, 0))}, {"both are 0", 1, Yes, ops(push(5, 0, 0))}, {"called ahead of all", 1, Yes, ops(push(5, least, 0))}, {"called behind all", 1, No, ops(push(5, greatest, greatest-1))}, {"returned behind all", 1, Yes, ops(push(5, greatest, greatest))},
	})
}

// TestLinTime asks in which order operations may be.
func TestLinTime(t *testing.T) {
	told(t, []row{
		{"a stack, last in", 2, Yes, ops(push(1, 0, 1), push(2, 2, 3), pop(2, 4, 5), pop(1, 6, 7))},
		{"a stack, first in", 2, No, ops(push(1, 0, 1), push(2, 2, 3), pop(1, 4, 5), pop(2, 6, 7))},
		{"a ring, last in", 2, No, ops(enq(1, 0, 1), enq(2, 2, 3), deq(2, 4, 5), deq(1, 6, 7))},
		{"a ring, first in", 2, Yes, ops(enq(1, 0, 1), enq(2, 2, 3), deq(1, 4, 5), deq(2, 6, 7))},
		{"a stack, pushes that overlap", 2, Yes, ops(push(1, 0, 2), push(2, 1, 3), pop(1, 4, 5), pop(2, 6, 7))},
		{"a ring, enqs that overlap", 2, Yes, ops(enq(1, 0, 2), enq(2, 1, 3), deq(2, 4, 5), deq(1, 6, 7))},
		{"an end as far as a call", 2, Yes, ops(push(1, 0, 2), push(2, 2, 3), pop(1, 4, 5), pop(2, 6, 7))},
		{"a pop's call as far as a push's end", 2, Yes, ops(push(1, 0, 1), push(2, 2, 3), pop(1, 3, 4), pop(2, 6, 7))},
		{"and one behind it", 2, No, ops(push(1, 0, 1), push(2, 2, 3), pop(1, 4, 5), pop(2, 6, 7))},
		{"the same calls", 2, Yes, ops(push(1, 0, 1), push(2, 0, 1), pop(1, 2, 3), pop(2, 4, 5))},
		{"empty while a push goes on", 2, Yes, ops(push(1, 0, 9), none(hist.Pop, 2, 3))},
		{"empty behind a push", 2, No, ops(push(1, 0, 1), none(hist.Pop, 2, 3))},
		{"full while a pop goes on", 1, Yes, ops(push(1, 0, 1), full(hist.Push, 2, 3, 4), pop(1, 2, 5))},
		{"not full while a pop goes on", 1, Yes, ops(push(1, 0, 1), push(2, 3, 4), pop(1, 2, 5))},
		{"full behind a pop", 1, No, ops(push(1, 0, 1), pop(1, 2, 3), full(hist.Push, 2, 4, 5))},
		{"full behind a deq", 1, No, ops(enq(1, 0, 1), deq(1, 2, 3), full(hist.Enq, 2, 4, 5))},
		{"one too many", 1, No, ops(push(1, 0, 3), push(2, 1, 2))},
		{"one is full, whichever", 1, Yes, ops(push(1, 0, 3), full(hist.Push, 2, 1, 2))},
		{"taken twice", 2, No, ops(push(1, 0, 9), pop(1, 1, 2), pop(1, 3, 4))},
		{"laid twice, taken twice", 2, Yes, ops(push(1, 0, 9), push(1, 0, 9), pop(1, 1, 2), pop(1, 3, 4))},
		{"four by turns", 1, Yes, ops(push(1, 0, 9), pop(1, 0, 9), push(2, 0, 9), pop(2, 0, 9))},
		{"four by turns, too late", 1, No, ops(push(1, 2, 9), pop(1, 4, 9), push(2, 4, 9), pop(2, 0, 1))},
		{"a middle one", 3, No, ops(push(1, 0, 1), push(2, 2, 3), push(3, 4, 5), pop(2, 6, 7))},
		{"a middle one of a ring", 3, No, ops(enq(1, 0, 1), enq(2, 2, 3), enq(3, 4, 5), deq(2, 6, 7))},
		{"two kinds of objects in one", 3, Yes, ops(push(1, 0, 1), enq(2, 2, 3), pop(2, 4, 5), deq(1, 6, 7))},
	})
}

// TestLinOpen asks of operations that have not come to their end.
func TestLinOpen(t *testing.T) {
	told(t, []row{
		{"a push is needed", 1, Yes, ops(open(hist.Push, 1, 0), pop(1, 2, 3))}, {"it is called as far as the pop returns", 1, Yes, ops(open(hist.Push, 1, 3), pop(1, 2, 3))}, {"it is called too late", 1, No, ops(open(hist.Push, 1, 4), pop(1, 2, 3))}, {"it is of another value", 1, No, ops(open(hist.Push, 2, 0), pop(1, 2, 3))},
		{"an enq is needed", 1, Yes, ops(open(hist.Enq, 1<<32+1, 0), deq(1, 2, 3))}, {"it is called too late", 1, No, ops(open(hist.Enq, 1, 4), deq(1, 2, 3))},
		{"a pop is needed", 1, Yes, ops(push(1, 0, 1), open(hist.Pop, 0, 2), push(2, 3, 4))}, {"it is called too late", 1, No, ops(push(1, 0, 1), open(hist.Pop, 0, 5), push(2, 3, 4))}, {"it took it", 1, Yes, ops(push(1, 0, 1), open(hist.Pop, 0, 2), none(hist.Pop, 3, 4))},
		{"a deq is needed", 1, Yes, ops(enq(1, 0, 1), open(hist.Deq, 0, 2), enq(2, 3, 4))}, {"it took the first one", 2, Yes, ops(enq(1, 0, 1), enq(2, 2, 3), open(hist.Deq, 0, 2), deq(2, 4, 5))}, {"it took one alone", 3, No, ops(enq(1, 0, 1), enq(2, 2, 3), enq(3, 4, 5), open(hist.Deq, 0, 2), deq(3, 6, 7))},
		{"two pushes are needed", 2, Yes, ops(open(hist.Push, 1, 0), open(hist.Push, 2, 1), pop(2, 2, 3), pop(1, 4, 5))}, {"two pushes, the other way", 2, Yes, ops(open(hist.Push, 1, 0), open(hist.Push, 2, 1), pop(1, 2, 3), pop(2, 4, 5))}, {"two, and there is one", 2, No, ops(open(hist.Push, 1, 0), pop(1, 2, 3), pop(1, 4, 5))},
		{"two deqs are needed", 3, Yes, ops(enq(1, 0, 1), enq(2, 2, 3), enq(3, 4, 5), open(hist.Deq, 0, 2), open(hist.Deq, 0, 3), deq(3, 6, 7))}, {"a push and a pop are needed", 1, Yes, ops(push(1, 0, 1), open(hist.Pop, 0, 2), open(hist.Push, 5, 3), pop(5, 4, 5))}, {"and the pop is too late", 1, No, ops(push(1, 0, 1), open(hist.Pop, 0, 6), open(hist.Push, 5, 3), pop(5, 4, 5))},
		{"a push is left out", 2, Yes, ops(push(1, 0, 1), open(hist.Push, 2, 2), pop(1, 3, 4), none(hist.Pop, 5, 6))}, {"a pop is left out", 2, Yes, ops(push(1, 0, 1), open(hist.Pop, 0, 2), pop(1, 3, 4))}, {"one of two is left out", 2, Yes, ops(open(hist.Push, 1, 0), open(hist.Push, 2, 0), pop(2, 3, 4), none(hist.Pop, 5, 6))}, {"an enq that has no room", 1, Yes, ops(enq(1, 0, 1), open(hist.Enq, 2, 2), deq(1, 3, 4))},
		{"done behind all, it needs not be", 1, Yes, ops(open(hist.Push, 1, 0), full(hist.Push, 2, 2, 3), pop(1, 4, 5))}, {"it fills the room", 1, No, ops(open(hist.Push, 1, 4), full(hist.Push, 2, 2, 3))}, {"it makes no room", 0, Yes, ops(open(hist.Pop, 0, 0), full(hist.Push, 2, 2, 3))},
		{"none has an end", 1, Yes, ops(open(hist.Pop, 0, 0))}, {"none of three has", 1, Yes, ops(open(hist.Pop, 0, 0), open(hist.Push, 4, 3), open(hist.Enq, 4, 9))}, {"none of eight has", 0, Yes, slices.Repeat(ops(open(hist.Push, 4, 3)), 8)}, {"nor of eight of other kinds", 0, Yes, slices.Repeat(ops(open(hist.Wait, 4, 3)), 8)},
		{"a value of 0 that was taken", 1, Yes, ops(open(hist.Pop, 0, 0), push(0, 0, 1), none(hist.Pop, 2, 3))}, {"a value of 0 that lies there", 1, Yes, ops(push(0, 0, 1), open(hist.Pop, 0, 0), pop(0, 2, 3))}, {"it is there once", 1, No, ops(push(0, 0, 1), open(hist.Pop, 0, 0), pop(0, 2, 3), pop(0, 4, 5))},
		{"its answer does not matter", 1, Yes, ops(op(hist.Push, 1, 9, true, 0, -7), pop(1, 2, 3))}, {"another kind is left out", 1, Yes, ops(open(hist.Signal, 1, 0), push(1, 2, 3), open(-1, 1, 0), pop(1, 4, 5))}, {"another kind that has an end is not", 1, No, ops(op(hist.Signal, 1, 0, true, 0, 0), push(1, 2, 3), pop(1, 4, 5))},
		{"its call is behind one that it ought to be ahead of", 2, No, ops(push(1, 0, 1), open(hist.Push, 2, 4), pop(2, 2, 3))}, {"one that is never next is left out", 1, Yes, ops(op(hist.Push, 1, 0, true, 5, -1), push(3, 0, 1))},
	})
}

// TestLinWays asks of orders that do the same operations, but hold other values behind them, in whichever order they are tried.
func TestLinWays(t *testing.T) {
	for _, v := range []int{1, 2, 3} {
		can := No
		if v > 1 {
			can = Yes
		}
		told(t, []row{
			{"a stack, the third one", 3, can, ops(push(0, 0, 1), push(1, 2, 3), push(2, 4, 9), push(3, 4, 9), open(hist.Pop, 0, 4), pop(v, 10, 11), pop(1, 12, 13))},
			{"a stack, the third one alone", 3, can, ops(push(0, 0, 1), push(1, 2, 3), push(2, 4, 9), push(3, 4, 9), open(hist.Pop, 0, 4), pop(v, 10, 11))},
			{"a ring, the first one", 2, can, ops(enq(2, 0, 9), enq(3, 0, 9), open(hist.Deq, 0, 0), enq(1, 10, 11), deq(v, 12, 13))},
			{"a ring, the first one, and the last", 2, can, ops(enq(2, 0, 9), enq(3, 0, 9), open(hist.Deq, 0, 0), enq(1, 10, 11), deq(v, 12, 13), deq(1, 14, 15))},
		})
	}
}

// TestLinRoom asks of rooms that there are not.
func TestLinRoom(t *testing.T) {
	for _, x := range []struct{ n, room int }{{least, 0}, {-1, 0}, {0, 0}, {1, 1}, {2, 2}, {7, 7}, {8, 8}, {1000, 8}, {1001, 8}, {greatest, 8}} {
		var l []hist.Op
		for k := range 8 {
			o := push(k, 3*k, 3*k+1)
			o.Ok = k < x.room
			l = append(l, o)
		}
		told(t, []row{{"as many as it has room for", x.n, Yes, l}})
		if x.room < 8 {
			m := slices.Clone(l)
			m[x.room].Ok = true
			told(t, []row{{"one more", x.n, No, m}})
		}
		if x.room > 0 {
			m := slices.Clone(l)
			m[x.room-1].Ok = false
			told(t, []row{{"one less", x.n, No, m}})
		}
	}
}

// TestLinDigits asks what is left of a value in a ring, and in a stack.
func TestLinDigits(t *testing.T) {
	for _, x := range []struct{ v, left int }{{1<<32 + 7, 7}, {-1, 1<<32 - 1}, {-1 << 31, 1 << 31}, {1 << 31, 1 << 31}, {least, 0}, {greatest, 1<<32 - 1}, {5, 5}, {0, 0}} {
		same := No
		if x.v == x.left {
			same = Yes
		}
		told(t, []row{
			{"a ring, what is left", 1, Yes, ops(enq(x.v, 0, 1), deq(x.left, 2, 3))}, {"a ring, the value", 1, same, ops(enq(x.v, 0, 1), deq(x.v, 2, 3))},
			{"a stack, the value", 1, Yes, ops(push(x.v, 0, 1), pop(x.v, 2, 3))}, {"a stack, what would be left", 1, same, ops(push(x.v, 0, 1), pop(x.left, 2, 3))},
			{"a ring, without an end", 1, Yes, ops(open(hist.Enq, x.v, 0), deq(x.left, 2, 3))}, {"a ring, without an end, the value", 1, same, ops(open(hist.Enq, x.v, 0), deq(x.v, 2, 3))},
		})
	}
}

// TestLinMost asks of eight operations, that may be in any order, or in one, and of nine.
func TestLinMost(t *testing.T) {
	taken := []int{7, 3, 5, 1}
	var free, bound, none, one []hist.Op
	for k, v := range taken {
		free = append(free, enq(v, 0, 99), deq(v, 0, 99))
		bound = append(bound, push(v, 2*k, 2*k+1), pop(v, 15-2*k, 15-2*k))
		none = append(none, push(k, 0, 99), pop(k+4*(k/3), 0, 99))
		one = append(one, enq(k, 9-k, 20), deq(k, 30, 40+k)) // the later it was laid, the sooner it must have been
	}
	last := append(slices.Clone(bound[:7]), pop(9, 15, 15))
	told(t, []row{{"free", 1, Yes, free}, {"free, and more room", 8, Yes, free}, {"free, without room", 0, No, free}, {"bound", 4, Yes, bound}, {"bound, with too little room", 3, No, bound}, {"bound, but the last", 4, No, last}, {"one is not to be had", 9, No, none}, {"one order of many", 4, Yes, one}})
	for _, l := range [][]hist.Op{free, bound, last, none, one} {
		for _, o := range []hist.Op{open(hist.Push, 1, 0), open(hist.Wait, 1, 0), push(1, 100, 101), {}} {
			told(t, []row{{"nine", 4, Many, append(slices.Clone(l), o)}, {"ten", -4, Many, append(slices.Clone(l), o, o)}})
		}
	}
	for _, n := range []int{9, 10, 16, 17, 256, 257, 264, 100000} {
		told(t, []row{{"many", 1, Many, make([]hist.Op, n)}, {"many without an end", 1, Many, slices.Repeat([]hist.Op{open(hist.Push, 1, 0)}, n)}})
	}
	told(t, []row{{"eight of nothing", 1, No, make([]hist.Op, 8)}, {"eight without room", 0, Yes, make([]hist.Op, 8)}, {"eight that were full", 0, Yes, slices.Repeat([]hist.Op{full(hist.Push, 1, 0, 1)}, 8)}})
}

// forms are operations of each kind, with each answer, that lie at from and to.
func forms(from, to int) []hist.Op {
	return []hist.Op{
		push(1, from, to), push(2, from, to), full(hist.Push, 1, from, to), enq(1<<32+2, from, to), full(hist.Enq, 2, from, to),
		pop(1, from, to), pop(2, from, to), none(hist.Pop, from, to), deq(1, from, to), deq(2, from, to), none(hist.Deq, from, to), op(hist.Acq, 0, 0, true, from, to),
	}
}

// TestLinPairs holds Lin against the model for all two operations that lie near.
func TestLinPairs(t *testing.T) {
	var all []hist.Op
	for from := range 3 {
		for to := -1; to < 3; to++ {
			all = append(all, forms(from, to)...)
		}
	}
	for _, a := range all {
		for n := range 3 {
			follow(t, ops(a), n)
			for _, b := range all {
				follow(t, ops(a, b), n)
			}
		}
	}
}

// any is any operation, that lies near enough to overlap others.
func (x *mix) any(width int) hist.Op {
	from := x.below(width)
	o := op(x.below(4), x.below(3), x.below(3), x.below(4) > 0, from, from+1+x.below(6))
	switch x.below(12) {
	case 0, 1:
		o.To = -1
	case 2:
		o.To = from
	case 3:
		o.To = from - 1
	case 4:
		o.Kind = x.of(-1, 0, 1, 2, 3, 4, 5, 6, 7, 8)
	}
	if x.below(3) > 0 {
		o.Kind &= 1 // a stack alone is likelier to have an order
	}
	o.Task = x.below(8) - 1
	return o
}

// TestLinMixes holds Lin against the model for mixes of up to eight, of which both are told often.
func TestLinMixes(t *testing.T) {
	var seen [9][2]int
	for turn := range 12000 {
		x := mix(turn)
		var l []hist.Op
		for range x.below(6) {
			l = append(l, x.any(12))
		}
		seen[len(l)][follow(t, ops(l...), x.of(0, 1, 1, 2, 2, 3, 9))]++
	}
	for turn := range 150 {
		x := mix(turn)
		l := ops()
		for range 6 + x.below(3) {
			l = append(l, x.any(12))
		}
		follow(t, l, x.of(1, 2, 3, 9))
	}
	for n, s := range seen {
		if n > 0 && n < 5 && min(s[No], s[Yes]) < 50 {
			t.Errorf("of %d operations %d have no order, %d have one", n, s[No], s[Yes])
		}
	}
}

// TestLinStretched asks that nothing but the order of places matters, nor whose an operation is.
func TestLinStretched(t *testing.T) {
	for turn := range 3000 {
		x := mix(turn)
		l := ops()
		for range x.below(7) {
			l = append(l, x.any(9))
		}
		n := x.below(4)
		want := lin(t, l, n)
		far := slices.Clone(l)
		for k := range far {
			o := &far[k]
			o.Task, o.From = x.below(9), 1<<61+o.From<<40
			if o.To >= 0 {
				o.To = 1<<61 + o.To<<40
			}
		}
		if got := lin(t, shuffled(&x, far), n); got != want {
			t.Fatalf("%+v of %d: told %d, and %d of %+v", l, n, want, got, far)
		}
	}
}

// TestLinWild asks of numbers of any kind, and holds what is told against the model.
func TestLinWild(t *testing.T) {
	wild := []int{least, least + 1, -1 << 32, -1000, -1, 0, 1, 2, 7, 8, 999, 1000, 1001, 1 << 31, 1 << 32, greatest - 1, greatest}
	for turn := range 4000 {
		x := mix(turn)
		l := ops()
		for range x.below(6) {
			l = append(l, hist.Op{Task: x.of(wild...), Kind: x.of(x.of(wild...), x.below(9)), Arg: x.of(wild...), Res: x.of(wild...), Ok: x.below(2) == 0, From: x.of(wild...), To: x.of(wild...)})
		}
		follow(t, l, x.of(wild...))
	}
}
