package shape

import (
	"slices"
	"strconv"
	"testing"

	"tenterhook/dict"
	"tenterhook/kern"
	"tenterhook/outer"
)

// text is a text with a word behind cells, as "5 2048 PUSH".
func text(word string, l ...int) string {
	out := ""
	for _, x := range l {
		out += strconv.Itoa(x) + " "
	}
	return out + word
}

// values are numbers of both signs, and with digits above the lowest 32.
func values() []int {
	return []int{5, -1, 0, least, 1 << 32, greatest, 1<<32 + 7, -1 << 32, 1<<32 - 1, -2, 1 << 31, 4}
}

// piled is a stack by one task, as two plain lists: its values, each with the number of its node, and the free nodes; the last one is the next one to go.
type piled struct {
	t                  *testing.T
	s                  outer.Sys
	at, most           int
	held, nodes, spare []int
}

func pile(t *testing.T, s outer.Sys, at, n int) *piled {
	s.S.M = lay(0, s.S.M, at, n)
	p := &piled{t: t, s: s, at: at, most: n}
	for node := n + 7; node >= 1; node-- {
		p.spare = append(p.spare, node)
	}
	p.check()
	return p
}

func (p *piled) push(x int) {
	p.t.Helper()
	p.s = does(p.t, p.s, text("push drop", x, p.at))
	if len(p.held) < p.most {
		last := len(p.spare) - 1
		p.held, p.nodes, p.spare = append(p.held, x), append(p.nodes, p.spare[last]), p.spare[:last]
	}
	p.check()
}

func (p *piled) pop() {
	p.t.Helper()
	p.s = does(p.t, p.s, text("pop 2drop", p.at))
	if last := len(p.held) - 1; last >= 0 {
		p.held, p.nodes, p.spare = p.held[:last], p.nodes[:last], append(p.spare, p.nodes[last])
	}
	p.check()
}

// check holds what is told of the stack against both lists.
func (p *piled) check() {
	p.t.Helper()
	got := follow(p.t, p.s.S.M, p.at)
	held, free := slices.Clone(p.held), slices.Clone(p.spare)
	slices.Reverse(held)
	slices.Reverse(free)
	if !got.isStack || !got.isFree || !got.whole[0] || !slices.Equal(got.stack, held) || !slices.Equal(got.free, free) {
		p.t.Fatalf("a stack of %d at %d: %+v, not %v and %v", p.most, p.at, got, held, free)
	}
}

// row is a ring by one task, as a plain list, with how many were taken and laid.
type row struct {
	t        *testing.T
	s        outer.Sys
	at, most int
	held     []int
}

func rowOf(t *testing.T, s outer.Sys, at, n int) *row {
	s.S.M = lay(1, s.S.M, at, n)
	r := &row{t: t, s: s, at: at, most: n}
	r.check()
	return r
}

func (r *row) put(x int) {
	r.t.Helper()
	r.s = does(r.t, r.s, text("enq drop", x, r.at))
	if len(r.held) < r.most {
		r.held = append(r.held, int(uint32(x)))
	}
	r.check()
}

func (r *row) take() {
	r.t.Helper()
	r.s = does(r.t, r.s, text("deq 2drop", r.at))
	r.held = r.held[min(1, len(r.held)):]
	r.check()
}

func (r *row) check() {
	r.t.Helper()
	got := follow(r.t, r.s.S.M, r.at)
	if !got.isRing || !got.whole[1] || !slices.Equal(got.ring, r.held) {
		r.t.Fatalf("a ring of %d at %d: %+v, not %v", r.most, r.at, got, r.held)
	}
}

// TestExample is the document's.
func TestExample(t *testing.T) {
	s := booted(t)
	s.S.M = lay(0, s.S.M, 2048, 2)
	s = does(t, s, "5 2048 push drop 6 2048 push drop")
	if l, ok := Stack(s.S.M, 2048); !ok || !slices.Equal(l, []int{6, 5}) {
		t.Errorf("told %v %v", l, ok)
	}
}

// TestFilledStack fills stacks with two more than there is room for, empties them with two more than there are, and pushes and pops by turns.
func TestFilledStack(t *testing.T) {
	s, l := booted(t), values()
	for _, n := range []int{1, 2, 3, 8, 60} {
		for _, at := range []int{2048, 2504, 4096 - 24 - 16*(n+7)} {
			p := pile(t, s, at, n)
			for round := range 2 {
				for k := range n + 2 {
					p.push(l[(k+round)%len(l)])
				}
				for range n + 2 {
					p.pop()
				}
			}
			for k := range 20 {
				for i := range 7 * k % (n + 2) {
					p.push(l[(k+i)%len(l)] + k)
				}
				for range 5 * k % (n + 3) {
					p.pop()
				}
			}
		}
	}
}

// TestFilledRing does likewise with rings, and goes round them with some values in them.
func TestFilledRing(t *testing.T) {
	s, l := booted(t), values()
	for _, n := range []int{1, 2, 3, 8, 60} {
		for _, at := range []int{2048, 2504, 4096 - 24 - 8*n} {
			r := rowOf(t, s, at, n)
			for round := range 3 {
				for k := range n + 2 {
					r.put(l[(k+round)%len(l)])
				}
				for range n + 2 {
					r.take()
				}
			}
		}
	}
	for _, n := range []int{1, 2, 3, 7} {
		for held := range n + 1 {
			r := rowOf(t, s, 3000, n)
			for k := range held {
				r.put(100 + k)
			}
			for k := range 4*n + 1 {
				r.put(-k)
				r.take()
			}
		}
	}
}

// TestUsedLock takes a lock and releases it.
func TestUsedLock(t *testing.T) {
	s := booted(t)
	for _, at := range []int{2048, 3600, 4080} {
		u := s
		u.S.M = lay(2, s.S.M, at, 0)
		for ticket := range 10 {
			u = does(t, u, text("acquire", at))
			if got := follow(t, u.S.M, at); got.next != ticket+1 || got.served != ticket || !got.whole[2] {
				t.Errorf("taken: %+v", got)
			}
			u = does(t, u, text("release", at))
			if got := follow(t, u.S.M, at); got.next != ticket+1 || got.served != ticket+1 || !got.whole[2] {
				t.Errorf("released: %+v", got)
			}
		}
		// Who releases a lock that none holds breaks it.
		u = does(t, u, text("release", at))
		if got := follow(t, u.S.M, at); got.isLock || got.whole[2] {
			t.Errorf("released once more: %+v", got)
		}
	}
}

// TestUsedEvent signals an event and waits for it.
func TestUsedEvent(t *testing.T) {
	s := booted(t)
	for _, at := range []int{2048, 3616, 4088} {
		u := s
		u.S.M = lay(3, s.S.M, at, 3)
		for k, word := range []string{"signal", "signal", "wait", "wait", "wait", "wait", "wait", "signal"} {
			u = does(t, u, text(word, at))
			if got, want := follow(t, u.S.M, at), []int{4, 5, 4, 3, 2, 1, 0, 1}[k]; got.signals != want || !got.whole[3] {
				t.Errorf("%s: %+v, not %d", word, got, want)
			}
		}
	}
}

// kernel is one in which tasks do these words, with objects of each kind.
func kernel(t *testing.T, n int, source string, words ...string) kern.Kern {
	t.Helper()
	s := booted(t)
	m := lay(0, s.S.M, 2048, n)
	m = lay(1, m, 3000, n)
	m = lay(2, m, 3600, 0)
	s.S.M = lay(3, m, 3616, 0)
	s = does(t, s, source)
	var l []kern.Spec
	for _, w := range words {
		i, ok := dict.Find(s.P.Words, w)
		if !ok {
			t.Fatalf("%s is not found", w)
		}
		l = append(l, kern.Spec{At: dict.Addr(s.P.Words[i].P)})
	}
	return kern.New(s.P, s.S.M, l, 1000)
}

// TestCutShort asks behind each step of tasks that are preempted anywhere: all objects are whole, also where a ring's head or its tail is one behind.
func TestCutShort(t *testing.T) {
	source := ": a 5 2048 push drop 6 2048 push drop 2048 pop 2drop 7 3000 enq drop 3000 deq 2drop ; : b 3000 deq 2drop -8 3000 enq drop 2048 pop 2drop 9 2048 push drop ; : c 3600 acquire 3616 signal 3600 release 3616 wait ; : d 1 3000 enq drop 2 3000 enq drop 3000 deq 2drop 3000 deq 2drop 3000 deq 2drop ;"
	heads, tails, nodes := 0, 0, 0
	for turn := range 60 {
		x := mix(turn)
		k := kernel(t, 1+turn%3, source, "A", "B", "C", "D", "A", "B", "D")
		for steps := 0; steps < 4000 && !kern.Over(k); steps++ {
			was := k.M
			k, _ = kern.Step(k, kern.Choice{Preempt: x.below(3) == 0, N: x.below(7 - turn%3)})
			if slices.Equal(was, k.M) {
				continue
			}
			for kind, at := range []int{2048, 3000, 3600, 3616} {
				if got := follow(t, k.M, at); !got.whole[kind] {
					t.Fatalf("turn %d, behind %d steps: the kind %d is not whole: %+v", turn, steps, kind, got)
				}
			}
			n, head, tail := cell(k.M, 3016), cell(k.M, 3000), cell(k.M, 3008)
			held, _ := Ring(k.M, 3000)
			if cell(k.M, 3024+8*(head%n)) >= (head/n+1)*round {
				head++
				heads++
			}
			tails += head + len(held) - tail
			stack, _ := Stack(k.M, 2048)
			free, _ := Free(k.M, 2048)
			nodes += cell(k.M, 2064) + 7 - len(stack) - len(free)
		}
	}
	if min(heads, tails, nodes) < 100 {
		t.Errorf("a head is behind %d times, a tail %d times, and %d nodes are nowhere", heads, tails, nodes)
	}
}

// TestPushedAndLaid asks that what tasks push and lay is there once they are done, however they are preempted.
func TestPushedAndLaid(t *testing.T) {
	source := ": a 1 2048 push drop 2 3000 enq drop ; : b 3 2048 push drop 4 3000 enq drop ; : c 5 2048 push drop 6 3000 enq drop ;"
	for turn := range 30 {
		x := mix(turn)
		k := kernel(t, 3, source, "A", "B", "C")
		for steps := 0; steps < 4000 && !kern.Over(k); steps++ {
			k, _ = kern.Step(k, kern.Choice{Preempt: x.below(2) == 0, N: x.below(3)})
		}
		held, isStack := Stack(k.M, 2048)
		row, isRing := Ring(k.M, 3000)
		slices.Sort(held)
		slices.Sort(row)
		if !kern.Over(k) || !isStack || !isRing || !slices.Equal(held, []int{1, 3, 5}) || !slices.Equal(row, []int{2, 4, 6}) {
			t.Errorf("turn %d: %v %v", turn, held, row)
		}
	}
}

// TestApart asks that lists that are told share nothing: what is put into one is in no other one, and not in the memory.
func TestApart(t *testing.T) {
	m := lay(0, ringWith(memory(5120), 3000, 3, 5, 7, 8, 9), 2048, 2)
	m = putAt(m, 2048, 2*many+8, 2048+24+16*6, 0)
	for _, x := range []struct {
		name string
		call func([]byte, int) ([]int, bool)
		at   int
	}{{"Stack", Stack, 2048}, {"Free", Free, 2048}, {"Ring", Ring, 3000}} {
		first, _ := x.call(m, x.at)
		kept := slices.Clone(first)
		for k := range first {
			first[k] = -77
		}
		if again, ok := x.call(m, x.at); !ok || len(again) == 0 || !slices.Equal(again, kept) {
			t.Errorf("%s: told %v, not %v", x.name, again, kept)
		}
	}
	follow(t, m, 2048)
	follow(t, m, 3000)
}
