package hist

import (
	"slices"
	"strconv"
	"testing"

	"tenterhook/api"
	"tenterhook/dict"
	"tenterhook/kern"
	"tenterhook/lib"
	"tenterhook/outer"
)

// Where the objects of the tests lie: a stack, a ring, a lock, and an event.
const (
	stack = 2048
	ring  = 3000
	lock  = 3600
	event = 3616
)

// with is a memory with an object that may be laid.
func with(m []byte, e api.Throw) []byte {
	if e != api.OK {
		panic(e)
	}
	return m
}

// laid is Boot's system with the objects, of room n the stack and the ring, of as many signals the event.
func laid(t *testing.T, n int) outer.Sys {
	t.Helper()
	s, e := lib.Boot()
	if e != api.OK {
		t.Fatalf("Boot throws %d", int(e))
	}
	m := with(lib.Stack(s.S.M, stack, n))
	m = with(lib.Ring(m, ring, n))
	m = with(lib.Lock(m, lock))
	s.S.M = with(lib.Event(m, event, n))
	return s
}

// does is a system behind a text that throws nothing; nothing is kept of the stack.
func does(t *testing.T, s outer.Sys, text string) outer.Sys {
	t.Helper()
	u, e := outer.Eval(s, text)
	if e != api.OK {
		t.Fatalf("%q throws %d", text, int(e))
	}
	u.S.T.D = nil
	return u
}

// plain is what a host does, as plain lists and numbers, with the operations that are to be told of each object.
type plain struct {
	n, ticket, signals, many int
	stack, ring              []int
	held                     bool
	ops                      map[int][]Op
}

// add is one more operation, the next one of all.
func (p *plain) add(at, kind, arg, res int, ok bool) {
	p.ops[at] = append(p.ops[at], Op{-1, kind, arg, res, ok, 2 * p.many, 2*p.many + 1})
	p.many++
}

// next does one operation as x picks it, and tells its text.
func (p *plain) next(x *mix) string {
	v := x.of(0, 5, -1, 1<<40+7, 1000+x.below(1000))
	switch x.below(10) {
	case 0, 1:
		ok := len(p.stack) < p.n
		if ok {
			p.stack = append(p.stack, v)
		}
		p.add(stack, Push, v, 0, ok)
		return strconv.Itoa(v) + " 2048 push drop "
	case 2, 3:
		if last := len(p.stack) - 1; last >= 0 {
			p.add(stack, Pop, 0, p.stack[last], true)
			p.stack = p.stack[:last]
		} else {
			p.add(stack, Pop, 0, 0, false)
		}
		return "2048 pop 2drop "
	case 4, 5:
		ok := len(p.ring) < p.n
		if ok {
			p.ring = append(p.ring, int(uint32(v)))
		}
		p.add(ring, Enq, v, 0, ok)
		return strconv.Itoa(v) + " 3000 enq drop "
	case 6, 7:
		if len(p.ring) > 0 {
			p.add(ring, Deq, 0, p.ring[0], true)
			p.ring = p.ring[1:]
		} else {
			p.add(ring, Deq, 0, 0, false)
		}
		return "3000 deq 2drop "
	case 8:
		return p.turn()
	}
	if p.signals > 0 && x.below(2) == 0 {
		p.signals--
		p.add(event, Wait, 0, 0, true)
		return "3616 wait "
	}
	p.signals++
	p.add(event, Signal, 0, 0, true)
	return "3616 signal "
}

// turn takes the lock, or releases it.
func (p *plain) turn() string {
	p.held = !p.held
	if !p.held {
		p.add(lock, Rel, 0, 0, true)
		return "3600 release "
	}
	p.add(lock, Acq, 0, p.ticket, true)
	p.ticket++
	return "3600 acquire "
}

// TestHost holds what a host's texts tell against plain lists, operation by operation.
func TestHost(t *testing.T) {
	for turn := range 12 {
		x := mix(turn)
		n := 1 + turn%4
		s := laid(t, n)
		p := &plain{n: n, signals: n, ops: map[int][]Op{}}
		low := n
		for range 120 {
			s = does(t, s, p.next(&x))
			low = min(low, p.signals)
		}
		h := s.S.Hist
		returns := 0
		for _, at := range []int{stack, ring, lock, event} {
			got := follow(t, h, at, n)
			if !got.isOps || !slices.Equal(got.ops, p.ops[at]) || slices.Contains(got.pending, true) {
				t.Fatalf("turn %d, at %d: %+v, not %v", turn, at, got, p.ops[at])
			}
			if at < lock {
				returns += len(got.ops)
			}
		}
		if most, ok := Holders(h, lock); !ok || most != min(1, p.ticket) {
			t.Errorf("turn %d: %d %v", turn, most, ok)
		}
		if least, ok := Signals(h, event, n); !ok || least != low {
			t.Errorf("turn %d: %d %v, not %d", turn, least, ok, low)
		}
		if least, ok := Signals(h, event, n-low-1); ok || least != -1 {
			t.Errorf("turn %d, with too few at first: %d %v", turn, least, ok)
		}
		if got := Returns(h); got != returns {
			t.Errorf("turn %d: %d returns, not %d", turn, got, returns)
		}
	}
}

// TestUnsound asks of a host that releases what it has not, of tickets that it tells itself, and of a lock that begins with the ticket 1.
func TestUnsound(t *testing.T) {
	s := laid(t, 2)
	for _, x := range []struct {
		text string
		most int
		ok   bool
	}{
		{"3600 acquire 3600 release 3600 acquire 3600 release", 1, true}, {"3600 release", 0, false}, {"3600 acquire 3600 release 3600 release", 1, false},
		{"0 3600 12 note 1 3600 12 note", 1, true}, {"0 3600 12 note 0 3600 12 note", 1, false}, {"1 3600 ! 1 3608 ! 3600 acquire", 1, false},
	} {
		u := does(t, s, x.text)
		if got := follow(t, u.S.Hist, lock, 0); got.most != x.most || got.isLock != x.ok {
			t.Errorf("%s: %d %v", x.text, got.most, got.isLock)
		}
	}
}

// doing is what a task does, one operation behind the other, with the value that each is given.
type doing struct {
	op, at, arg int
}

// word is the text of a word that does these.
func word(name string, l []doing) string {
	out := ": " + name
	for _, d := range l {
		at := " " + strconv.Itoa(d.at) + " "
		switch d.op {
		case Push, Enq:
			out += " " + strconv.Itoa(d.arg) + at + []string{"push", "", "enq"}[d.op] + " drop"
		case Pop, Deq:
			out += at + []string{"pop", "", "deq"}[d.op-1] + " 2drop"
		default:
			out += at + []string{"acquire", "release", "wait", "signal"}[d.op-4]
		}
	}
	return out + " ; "
}

// kernel is one in which each task does one of these rows.
func kernel(t *testing.T, n int, rows [][]doing) kern.Kern {
	t.Helper()
	s := laid(t, n)
	var l []kern.Spec
	for k, row := range rows {
		name := string([]byte{'Q', byte('0' + k)})
		s = does(t, s, word(name, row))
		i, ok := dict.Find(s.P.Words, name)
		if !ok {
			t.Fatalf("%s is not found", name)
		}
		l = append(l, kern.Spec{At: dict.Addr(s.P.Words[i].P)})
	}
	return kern.New(s.P, s.S.M, l, 1000)
}

// kept holds what is told of all objects against the rows that the tasks do: each has come so far in its row, and all but its last operation have returned.
func kept(t *testing.T, h []api.Event, n int, rows [][]doing) []Op {
	t.Helper()
	var all []Op
	whose := map[int]int{} // under an operation's call: its object
	returns := 0
	for _, at := range []int{stack, ring, lock, event} {
		got := follow(t, h, at, n)
		if !got.isOps {
			t.Fatalf("%v: at %d there are no operations", h, at)
		}
		for _, o := range got.ops {
			whose[o.From] = at
			if o.To >= 0 && o.Kind <= Deq {
				returns++
			}
		}
		all = append(all, got.ops...)
	}
	slices.SortFunc(all, func(a, b Op) int { return a.From - b.From })
	pending := make([]bool, 8)
	for k, row := range rows {
		open := false
		for _, o := range all {
			if o.Task != k {
				continue
			}
			if open || len(row) == 0 || o.Kind != row[0].op || o.Arg != row[0].arg || whose[o.From] != row[0].at {
				t.Fatalf("%v: the task %d did %+v, %v was next", h, k, o, row)
			}
			row, open = row[1:], o.To < 0
			pending[k] = open && o.Kind <= Deq
		}
	}
	if got := Pending(h); !slices.Equal(got, pending) || Returns(h) != returns {
		t.Fatalf("%v: %v are pending, not %v; %d returned, not %d", h, got, pending, Returns(h), returns)
	}
	return all
}

// TestTasks asks behind each event of tasks that are preempted anywhere.
func TestTasks(t *testing.T) {
	rows := [][]doing{
		{{Push, stack, 5}, {Push, stack, 6}, {Pop, stack, 0}, {Enq, ring, 7}, {Deq, ring, 0}},
		{{Acq, lock, 0}, {Enq, ring, 8}, {Rel, lock, 0}, {Signal, event, 0}, {Pop, stack, 0}, {Wait, event, 0}},
		{{Deq, ring, 0}, {Wait, event, 0}, {Acq, lock, 0}, {Push, stack, 9}, {Signal, event, 0}, {Rel, lock, 0}},
		{{Enq, ring, 1}, {Pop, stack, 0}, {Deq, ring, 0}},
		{{Acq, lock, 0}, {Pop, stack, 0}, {Rel, lock, 0}, {Acq, lock, 0}, {Rel, lock, 0}},
	}
	overlaps, refusals, open := 0, 0, 0
	for turn := range 40 {
		x := mix(turn)
		n := 1 + turn%2
		k := kernel(t, n, rows)
		var l []Op
		for steps := 0; steps < 4000 && !kern.Over(k); steps++ {
			was := len(k.Hist)
			k, _ = kern.Step(k, kern.Choice{Preempt: x.below(4) == 0, N: x.below(5)})
			if len(k.Hist) == was {
				continue
			}
			l = kept(t, k.Hist, n, rows)
			if most, ok := Holders(k.Hist, lock); !ok || most > 1 {
				t.Fatalf("turn %d: %v: %d %v", turn, k.Hist, most, ok)
			}
			if least, ok := Signals(k.Hist, event, n); !ok || least > n {
				t.Fatalf("turn %d: %v: %d %v", turn, k.Hist, least, ok)
			}
			if slices.Contains(Pending(k.Hist), true) {
				open++
			}
		}
		if !kern.Over(k) || len(l) != 25 {
			t.Fatalf("turn %d: not all is done: %v", turn, l)
		}
		for i, o := range l {
			if o.To < 0 {
				t.Errorf("turn %d: %+v has not returned", turn, o)
			}
			if i > 0 && l[i-1].To > o.From {
				overlaps++
			}
			if !o.Ok {
				refusals++
			}
		}
	}
	if min(overlaps, refusals, open) < 50 {
		t.Errorf("%d overlap, %d could not be done, %d times one was pending", overlaps, refusals, open)
	}
}

// TestExample is the document's: while a push goes on, another task pops what it pushed.
func TestExample(t *testing.T) {
	rows := [][]doing{{{Push, stack, 5}}, {{Pop, stack, 0}}}
	k := kernel(t, 2, rows)
	for len(k.Hist) == 0 || len(k.Hist) == 1 && popped(k) != 5 {
		k, _ = kern.Step(k, kern.Choice{})
	}
	// The value lies there, and nothing of that is told yet.
	k, _ = kern.Step(k, kern.Choice{Preempt: true})
	for !kern.Over(k) {
		k, _ = kern.Step(k, kern.Choice{})
	}
	want := []Op{{0, Push, 5, 0, true, 0, 3}, {1, Pop, 0, 5, true, 1, 2}}
	if got := follow(t, k.Hist, stack, 0); !got.isOps || !slices.Equal(got.ops, want) {
		t.Errorf("%v: %+v", k.Hist, got)
	}
}

// popped is what the second task pops, if it goes on now, as long as it has not begun.
func popped(k kern.Kern) int {
	k, _ = kern.Step(k, kern.Choice{Preempt: true})
	for !slices.ContainsFunc(k.Hist, func(e api.Event) bool { return e.Task == 1 && e.Kind != 3 }) {
		k, _ = kern.Step(k, kern.Choice{})
	}
	return k.Hist[len(k.Hist)-1].Val
}
