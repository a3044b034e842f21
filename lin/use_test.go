package lin

import (
	"strconv"
	"testing"

	"tenterhook/api"
	"tenterhook/dict"
	"tenterhook/hist"
	"tenterhook/kern"
	"tenterhook/lib"
	"tenterhook/outer"
)

// Where the objects of the tests lie.
const (
	stack = 2048
	ring  = 3000
)

// laid is Boot's system with a stack and a ring of room n.
func laid(t *testing.T, n int) outer.Sys {
	t.Helper()
	s, e := lib.Boot()
	if e != api.OK {
		t.Fatalf("Boot throws %d", int(e))
	}
	m, e := lib.Stack(s.S.M, stack, n)
	if e != api.OK {
		t.Fatalf("a stack of %d throws %d", n, int(e))
	}
	if s.S.M, e = lib.Ring(m, ring, n); e != api.OK {
		t.Fatalf("a ring of %d throws %d", n, int(e))
	}
	return s
}

// does is a system behind a text that throws nothing.
func does(t *testing.T, s outer.Sys, text string) outer.Sys {
	t.Helper()
	u, e := outer.Eval(s, text)
	if e != api.OK {
		t.Fatalf("%q throws %d", text, int(e))
	}
	return u
}

// word is the text of one operation.
func word(kind, v int) string {
	return []string{
		strconv.Itoa(v) + " 2048 push drop ", "2048 pop 2drop ", strconv.Itoa(v) + " 3000 enq drop ", "3000 deq 2drop ",
	}[kind]
}

// run is what hist tells of an object's operations, and what Lin tells of these.
func run(t *testing.T, h []api.Event, at, n int) ([]hist.Op, int) {
	t.Helper()
	l, ok := hist.Ops(h, at)
	if !ok {
		t.Fatalf("%v: at %d there are no operations", h, at)
	}
	if len(l) > 6 { // the model is slow
		return l, lin(t, l, n)
	}
	return l, follow(t, l, n)
}

// TestHost asks of one task, the host: what it did has an order, and with another answer, or a room that it had not, just if that could have been told.
func TestHost(t *testing.T) {
	refused := 0
	for turn := range 300 {
		x := mix(turn)
		n := 1 + turn%3
		s := laid(t, n)
		text := ""
		for range 1 + x.below(8) {
			text += word(2*(turn%2)+x.below(2), x.of(0, 5, -1, 1<<31, -1<<31, 1<<32+9))
		}
		s = does(t, s, text)
		at := []int{stack, ring}[turn%2]
		l, got := run(t, s.S.Hist, at, n)
		if got != Yes {
			t.Fatalf("%s: told %d of %+v", text, got, l)
		}
		k := x.below(len(l))
		if x.below(2) == 0 {
			l[k].Ok = !l[k].Ok
		} else {
			l[k].Res++
		}
		if got := lin(t, l, n); (got == Yes) != played(l, n) {
			t.Fatalf("%s: told %d of %+v", text, got, l)
		} else if got == No {
			refused++
		}
	}
	if refused < 100 {
		t.Errorf("%d were refused", refused)
	}
}

// TestHostDigits is a value of more than 32 digits in the ring, and in the stack.
func TestHostDigits(t *testing.T) {
	s := does(t, laid(t, 2), "-1 3000 enq drop -2147483648 3000 enq drop 3000 deq 2drop 3000 deq 2drop -1 2048 push drop 2048 pop 2drop")
	l, got := run(t, s.S.Hist, ring, 2)
	if len(l) != 4 || l[2].Res != 1<<32-1 || l[3].Res != 1<<31 || got != Yes {
		t.Errorf("told %d of %+v", got, l)
	}
	l, got = run(t, s.S.Hist, stack, 2)
	if len(l) != 2 || l[1].Res != -1 || got != Yes {
		t.Errorf("told %d of %+v", got, l)
	}
}

// TestHostMany asks of eight operations, and of nine.
func TestHostMany(t *testing.T) {
	s := laid(t, 2)
	for k := range 10 {
		if _, got := run(t, s.S.Hist, stack, 2); k <= 8 && got != Yes || k == 9 && got != Many {
			t.Errorf("of %d operations: told %d", k, got)
		}
		s = does(t, s, word(k%2, k))
	}
}

// kernel is one in which each task does one of these rows of operations: of each its kind and its value.
func kernel(t *testing.T, n int, rows [][][2]int) kern.Kern {
	t.Helper()
	s := laid(t, n)
	var l []kern.Spec
	for k, row := range rows {
		name := string([]byte{'Q', byte('0' + k)})
		text := ": " + name + " "
		for _, o := range row {
			text += word(o[0], o[1])
		}
		s = does(t, s, text+"; ")
		i, ok := dict.Find(s.P.Words, name)
		if !ok {
			t.Fatalf("%s is not found", name)
		}
		l = append(l, kern.Spec{At: dict.Addr(s.P.Words[i].P)})
	}
	return kern.New(s.P, s.S.M, l, 1000)
}

// tasks are rows of up to eight operations in all, of a stack or a ring.
func tasks(x *mix, ring int) [][][2]int {
	var out [][][2]int
	for left := 8; left > 0 && len(out) < 4; {
		var row [][2]int
		for range min(left, 1+x.below(3)) {
			row = append(row, [2]int{2*ring + x.below(2), 10*len(out) + len(row)})
		}
		left -= len(row)
		out = append(out, row)
	}
	return out
}

// overlaps is how many operations begin while one ahead of them goes on.
func overlaps(l []hist.Op) int {
	many := 0
	for k, o := range l {
		for _, u := range l[:k] {
			if u.To < 0 || u.To > o.From {
				many++
				break
			}
		}
	}
	return many
}

// TestTasks asks behind each event of tasks that are preempted anywhere: there is an order, and if what was told is changed, there is one just if one is found order by order.
func TestTasks(t *testing.T) {
	over, open := 0, 0
	var changed [2]int
	for turn := range 120 {
		x := mix(turn)
		n := 1 + x.below(3)
		at := []int{stack, ring}[turn%2]
		k := kernel(t, n, tasks(&x, turn%2))
		var l []hist.Op
		for steps := 0; steps < 4000 && !kern.Over(k); steps++ {
			was := len(k.Hist)
			k, _ = kern.Step(k, kern.Choice{Preempt: x.below(3) == 0, N: x.below(5)})
			if len(k.Hist) == was {
				continue
			}
			var got int
			if l, got = run(t, k.Hist, at, n); got != Yes {
				t.Fatalf("turn %d: told %d of %+v", turn, got, l)
			}
			if l[len(l)-1].To < 0 {
				open++
			}
			if len(l) < 7 {
				o := &l[x.below(len(l))]
				switch x.below(3) {
				case 0:
					o.Ok = !o.Ok
				case 1:
					o.Res = x.of(0, 1, 10, 11, 20)
				default:
					o.From, o.To = o.From+x.below(6), o.To-x.below(3)
				}
				changed[follow(t, l, n)]++
			}
		}
		if !kern.Over(k) {
			t.Fatalf("turn %d: not all is done: %+v", turn, l)
		}
		over += overlaps(l)
	}
	if min(over, open, changed[No], changed[Yes]) < 100 {
		t.Errorf("%d overlap, %d times one was open, changed they have no order %d times, one %d times", over, open, changed[No], changed[Yes])
	}
}

// TestTasksWhole asks of eight operations of real runs, order by order.
func TestTasksWhole(t *testing.T) {
	for turn := range 6 {
		x := mix(turn)
		k := kernel(t, 2, tasks(&x, turn%2))
		for !kern.Over(k) {
			k, _ = kern.Step(k, kern.Choice{Preempt: x.below(2) == 0, N: x.below(5)})
		}
		l, _ := hist.Ops(k.Hist, []int{stack, ring}[turn%2])
		if got := follow(t, l, 2); got != Yes {
			t.Errorf("turn %d: told %d of %+v", turn, got, l)
		}
		for _, o := range l {
			if o.Kind%2 == 1 { // a value that nobody laid
				m := ops(l...)
				m[len(m)-1] = op(o.Kind, 0, 99, true, o.From, o.To)
				if got := follow(t, m, 2); got != No {
					t.Errorf("turn %d: told %d of %+v", turn, got, m)
				}
				break
			}
		}
	}
}
