package lib

import (
	"slices"
	"strconv"
	"strings"
	"testing"

	"tenterhook/api"
	"tenterhook/dict"
	"tenterhook/kern"
	"tenterhook/mem"
	"tenterhook/outer"
)

// op is a text with a place and a word behind some cells, as "5 2048 PUSH".
func op(word string, at int, l ...int) string {
	var out strings.Builder
	for _, x := range append(slices.Clone(l), at) {
		out.WriteString(strconv.Itoa(x) + " ")
	}
	return out.String() + word
}

// holder is a stack or a ring by one task, as a plain list.
type holder struct {
	t         *testing.T
	s         outer.Sys
	at, most  int
	in, out   string
	fifo      bool
	l         []int
	begin     int // the kind that is noted when something is put; the others follow it
	beginTake int // the kind that is noted when something is taken
}

func stackOf(t *testing.T, s outer.Sys, at, n int) *holder {
	s.S.M = with(Stack(s.S.M, at, n))
	return &holder{t: t, s: s, at: at, most: n, in: "PUSH", out: "POP", begin: 1, beginTake: 3}
}

func ringOf(t *testing.T, s outer.Sys, at, n int) *holder {
	s.S.M = with(Ring(s.S.M, at, n))
	return &holder{t: t, s: s, at: at, most: n, in: "ENQ", out: "DEQ", fifo: true, begin: 6, beginTake: 8}
}

// put puts a value; that there is no room for it is told.
func (h *holder) put(x int) {
	h.t.Helper()
	flag := 0
	if len(h.l) < h.most {
		flag = -1
		kept := x
		if h.fifo {
			kept = int(uint32(x))
		}
		h.l = append(h.l, kept)
	}
	s := does(h.t, emptied(h.s), op(h.in, h.at, 77, x), 77, flag)
	noted(h.t, s, h.at, h.begin, x, h.begin+1, flag)
	h.s = s
}

// take takes the value whose turn it is; that there is none is told.
func (h *holder) take() {
	h.t.Helper()
	text := op(h.out, h.at, 77)
	if len(h.l) == 0 {
		h.s = does(h.t, emptied(h.s), text, 77, 0, 0)
		noted(h.t, h.s, h.at, h.beginTake, 0, h.beginTake+2, 0)
		return
	}
	k := len(h.l) - 1
	if h.fifo {
		k = 0
	}
	x := h.l[k]
	h.l = slices.Delete(h.l, k, k+1)
	h.s = does(h.t, emptied(h.s), text, 77, x, -1)
	noted(h.t, h.s, h.at, h.beginTake, 0, h.beginTake+1, x)
}

// values are numbers of both signs, and with digits above the lowest 32.
func values() []int {
	return []int{5, -1, 0, least, 1 << 32, greatest, 1<<32 + 7, -1 << 32, 1<<32 - 1, -2, 1 << 31, 4}
}

// fillAndEmpty puts as many as there is room for, and two more, and takes all of them, and two more, again and again.
func (h *holder) fillAndEmpty(rounds int) {
	h.t.Helper()
	l := values()
	for round := range rounds {
		for k := range h.most + 2 {
			h.put(l[(k+round)%len(l)] + round)
		}
		for range h.most + 2 {
			h.take()
		}
	}
}

// mix puts and takes by turns, in rows of changing lengths.
func (h *holder) mix(n int) {
	h.t.Helper()
	l := values()
	for k := range n {
		for i := range (7*k + k/3) % (h.most + 3) {
			h.put(l[(k+i)%len(l)])
		}
		for range (5*k + k/2) % (h.most + 3) {
			h.take()
		}
	}
}

func TestStack(t *testing.T) {
	s := booted(t)
	for _, n := range []int{1, 2, 3, 8, 60} {
		stackOf(t, s, 2048, n).fillAndEmpty(3)
		stackOf(t, s, 4096-24-16*(n+7), n).fillAndEmpty(1)
	}
	for _, n := range []int{1, 2, 5} {
		stackOf(t, s, 2512, n).mix(30)
	}
}

func TestRing(t *testing.T) {
	s := booted(t)
	for _, n := range []int{1, 2, 3, 8, 60} {
		ringOf(t, s, 2048, n).fillAndEmpty(4)
		ringOf(t, s, 4096-24-8*n, n).fillAndEmpty(1)
	}
	for _, n := range []int{1, 2, 5} {
		ringOf(t, s, 2512, n).mix(40)
	}
}

// TestRingRounds goes round a ring with some values in it, so that its beginning is at each of the slots.
func TestRingRounds(t *testing.T) {
	s := booted(t)
	for _, n := range []int{1, 2, 3, 7} {
		for held := range n + 1 {
			h := ringOf(t, s, 3000, n)
			for k := range held {
				h.put(100 + k)
			}
			for k := range 5*n + 1 {
				h.put(-k)
				h.take()
			}
		}
	}
}

// TestTexts are rows of words as they stand in a text.
func TestTexts(t *testing.T) {
	s := fresh(t)
	for _, x := range []struct {
		text string
		want []int
	}{
		{"5 2048 PUSH 6 2048 PUSH 2048 POP", []int{-1, -1, 6, -1}}, {"2048 POP", []int{0, 0}}, {"3000 DEQ", []int{0, 0}},
		{"1 2048 PUSH 2 2048 PUSH 3 2048 PUSH 4 2048 PUSH 2048 POP", []int{-1, -1, -1, 0, 3, -1}},
		{"1 3000 ENQ 2 3000 ENQ 3 3000 ENQ 4 3000 ENQ 3000 DEQ", []int{-1, -1, -1, 0, 1, -1}},
		{"1 3000 ENQ 3000 DEQ -2 3000 ENQ 3000 DEQ 4294967296 3000 ENQ 3000 DEQ", []int{-1, 1, -1, -1, 4294967294, -1, -1, 0, -1}},
		{"-1 2048 PUSH 2048 POP", []int{-1, -1, -1}}, {"4294967296 2048 PUSH 2048 POP", []int{-1, 4294967296, -1}}, {"-9223372036854775808 2048 PUSH 2048 POP", []int{-1, least, -1}},
		{"-1 3000 ENQ 3000 DEQ", []int{-1, 4294967295, -1}}, {"-9223372036854775808 3000 ENQ 3000 DEQ", []int{-1, 0, -1}},
		{": move 2048 pop drop 3000 enq drop ; 8 2048 push drop 9 2048 push drop move move 3000 deq 3000 deq 2048 pop", []int{9, -1, 8, -1, 0, 0}},
		{": all 0 begin 2048 pop while + repeat drop ; 4 2048 push drop 5 2048 push drop 6 2048 push drop all", []int{15}},
		{": fill 10 0 do i 2048 push . loop ; fill", nil},
	} {
		does(t, s, x.text, x.want...)
	}
	if u := does(t, s, "4 0 2048 push . 1 2048 push . 2 2048 push . 3 2048 push .", 4); u.S.Out != "-1 -1 -1 0 " {
		t.Errorf("told %q", u.S.Out)
	}
}

// TestCellsOfStack asks how a stack lies that was used: its heads' tags tell how often each was changed, and its nodes lead on.
func TestCellsOfStack(t *testing.T) {
	const tag, held = 1 << 32, 1 << 16
	s := booted(t)
	s.S.M = with(Stack(s.S.M, 2048, 2))
	for _, x := range []struct {
		text string
		want []int // of the nodes only those two that come first
	}{
		{"", []int{0, 1, 2, 2, 0, 3, 0}},
		{"50 2048 PUSH", []int{tag + held + 1, tag + 2, 2, 0, 50, 3, 0}},
		{"60 2048 PUSH", []int{2*tag + 2*held + 2, 2*tag + 3, 2, 0, 50, 1, 60}},
		{"70 2048 PUSH", []int{2*tag + 2*held + 2, 4*tag + 3, 2, 0, 50, 1, 60}},
		{"2048 POP", []int{3*tag + held + 1, 5*tag + 2, 2, 0, 50, 3, 60}},
		{"2048 POP", []int{4 * tag, 6*tag + 1, 2, 2, 50, 3, 60}},
		{"2048 POP", []int{4 * tag, 6*tag + 1, 2, 2, 50, 3, 60}},
	} {
		u, e := outer.Eval(s, x.text)
		if got := cells(u.S.M, 2048, 7); e != api.OK || !slices.Equal(got, x.want) {
			t.Errorf("%q: throws %d, holds %v, not %v", x.text, int(e), got, x.want)
		}
		s = u
	}
}

// TestCellsOfRing asks how a ring lies that was used: of the round r a slot is r times 2^33, and laid 2^32 and its value more.
func TestCellsOfRing(t *testing.T) {
	const laid, round = 1 << 32, 1 << 33
	s := booted(t)
	s.S.M = with(Ring(s.S.M, 2048, 2))
	for _, x := range []struct {
		text string
		want []int
	}{
		{"", []int{0, 0, 2, 0, 0}},
		{"50 2048 ENQ", []int{0, 1, 2, laid + 50, 0}},
		{"-1 2048 ENQ", []int{0, 2, 2, laid + 50, laid + 4294967295}},
		{"70 2048 ENQ", []int{0, 2, 2, laid + 50, laid + 4294967295}},
		{"2048 DEQ", []int{1, 2, 2, round, laid + 4294967295}},
		{"80 2048 ENQ", []int{1, 3, 2, round + laid + 80, laid + 4294967295}},
		{"2048 DEQ", []int{2, 3, 2, round + laid + 80, round}},
		{"2048 DEQ", []int{3, 3, 2, 2 * round, round}},
		{"2048 DEQ", []int{3, 3, 2, 2 * round, round}},
		{"90 2048 ENQ", []int{3, 4, 2, 2 * round, round + laid + 90}},
	} {
		u, e := outer.Eval(s, x.text)
		if got := cells(u.S.M, 2048, 5); e != api.OK || !slices.Equal(got, x.want) {
			t.Errorf("%q: throws %d, holds %v, not %v", x.text, int(e), got, x.want)
		}
		s = u
	}
}

func TestLock(t *testing.T) {
	s := fresh(t)
	for ticket := range 20 {
		s = does(t, emptied(s), "77 3600 ACQUIRE", 77)
		noted(t, s, 3600, 11, 0, 12, ticket)
		if got := cells(s.S.M, 3600, 2); !slices.Equal(got, []int{ticket + 1, ticket}) {
			t.Errorf("held: %v", got)
		}
		s = does(t, emptied(s), "77 3600 RELEASE", 77)
		noted(t, s, 3600, 13, 0, 14, 0)
		if got := cells(s.S.M, 3600, 2); !slices.Equal(got, []int{ticket + 1, ticket + 1}) {
			t.Errorf("free: %v", got)
		}
	}
	does(t, emptied(s), ": guarded 3600 acquire dup * 3600 release ; 7 guarded guarded", 2401)
	u := throws(t, emptied(s), "3600 acquire 3600 acquire", api.Stopped)
	noted(t, u, 3600, 11, 0, 12, 20, 11, 0)
	if got := cells(u.S.M, 3600, 2); !slices.Equal(got, []int{22, 20}) {
		t.Errorf("held, and asked for: %v", got)
	}
}

func TestEvent(t *testing.T) {
	s := fresh(t)
	s = does(t, emptied(s), "77 3616 WAIT", 77)
	noted(t, s, 3616, 15, 0, 16, 0)
	for n := range 12 {
		s = does(t, emptied(s), "77 3616 SIGNAL", 77)
		noted(t, s, 3616, 17, 0, 18, 0)
		if got := cell(s.S.M, 3616); got != n+1 {
			t.Errorf("%d signals, not %d", got, n+1)
		}
	}
	for n := range 12 {
		s = does(t, emptied(s), "77 3616 WAIT", 77)
		noted(t, s, 3616, 15, 0, 16, 0)
		if got := cell(s.S.M, 3616); got != 11-n {
			t.Errorf("%d signals, not %d", got, 11-n)
		}
	}
	u := throws(t, emptied(s), "3616 wait", api.Stopped)
	noted(t, u, 3616, 15, 0)
	s = emptied(s)
	does(t, s, "3616 signal 3616 wait 3616 signal 3616 wait")
	// As many signals as an event may begin with.
	s.S.M = with(Event(s.S.M, 3616, 2147483647))
	if got := cell(does(t, s, "3616 signal 3616 signal 3616 wait").S.M, 3616); got != 2147483648 {
		t.Errorf("%d signals", got)
	}
}

// TestNext uses each kind of object with others just ahead of it and behind it: it changes no cell of theirs.
func TestNext(t *testing.T) {
	for _, x := range []struct {
		kind, n int
		text    string
	}{
		{0, 2, "1 A push 2 A push 3 A push A pop A pop A pop 4 A push A pop 0 0 0 A push"},
		{1, 2, "1 A enq 2 A enq 3 A enq A deq A deq A deq 4 A enq A deq 5 A enq"},
		{2, 0, "A acquire A release A acquire A release"},
		{3, 0, "A signal A signal A wait A wait A signal"},
	} {
		s := booted(t)
		all := memory(5120)
		s.S.M = slices.Concat(s.S.M[:2048], all[2048:4096], s.S.M[4096:])
		s.S.M = with(call(x.kind, s.S.M, 2504, x.n))
		size := Size(x.kind, x.n)
		u, e := outer.Eval(s, strings.ReplaceAll(x.text, "A", "2504"))
		if e != api.OK {
			t.Errorf("%q throws %d", x.text, int(e))
		}
		if !slices.Equal(u.S.M[:2504], s.S.M[:2504]) || !slices.Equal(u.S.M[2504+size:], s.S.M[2504+size:]) {
			t.Errorf("%q: bytes beside the object are changed", x.text)
		}
		if slices.Equal(u.S.M[2504:2504+size], s.S.M[2504:2504+size]) {
			t.Errorf("%q: the object is not changed", x.text)
		}
	}
}

// TestSeveral uses two objects of each kind by turns: none comes into another one.
func TestSeveral(t *testing.T) {
	s := booted(t)
	a, b := stackOf(t, s, 2048, 2), stackOf(t, s, 2048+168, 3)
	c := ringOf(t, s, 2400, 3)
	hs := []*holder{a, b, c}
	// One system goes from each to the next one.
	m := with(Stack(s.S.M, 2048, 2))
	m = with(Stack(m, 2048+168, 3))
	s.S.M = with(Ring(m, 2400, 3))
	for k := range 60 {
		h := hs[(k*k+k/7)%3]
		h.s = s
		if k%5 < 3 {
			h.put(k)
		} else {
			h.take()
		}
		s = h.s
	}
}

// TestTooFew asks of each word with too few cells.
func TestTooFew(t *testing.T) {
	s := fresh(t)
	for _, text := range []string{"push", "2048 push", "pop", "enq", "3000 enq", "deq", "acquire", "release", "signal", "wait"} {
		u := throws(t, s, text, api.Under)
		if !slices.Equal(u.S.M, s.S.M) || len(u.S.Hist) != 0 {
			t.Errorf("%q changes something: %v", text, u.S.Hist)
		}
	}
}

// TestNoPlace asks of each word with a place that is none, one that is no multiple of 8, and one at which no object lies.
func TestNoPlace(t *testing.T) {
	s := fresh(t)
	for _, x := range []struct {
		text string
		e    api.Throw
	}{
		{"5 5120 push", -9}, {"5120 pop", -9}, {"5 5120 enq", -9}, {"5120 deq", -9}, {"5120 acquire", -9}, {"5120 release", -9}, {"5120 signal", -9}, {"5120 wait", -9},
		{"5 -9223372036854775808 push", -9}, {"-9223372036854775808 pop", -9}, {"5 -9223372036854775808 enq", -9}, {"-9223372036854775808 deq", -9},
		{"-9223372036854775808 acquire", -9}, {"-9223372036854775808 release", -9}, {"-9223372036854775808 signal", -9}, {"-9223372036854775808 wait", -9},
		{"5 9223372036854775800 push", -9}, {"9223372036854775800 pop", -9}, {"5 5112 push", -9}, {"5 5112 enq", -9}, {"-8 pop", -9}, {"-8 deq", -9}, {"-8 acquire", -9}, {"-8 signal", -9}, {"-8 wait", -9}, {"-16 release", -9},
		{"5 2049 push", -23}, {"5 2052 push", -23}, {"2049 pop", -23}, {"5 3001 enq", -23}, {"3001 deq", -23}, {"3601 acquire", -23}, {"3604 release", -23}, {"3617 signal", -23}, {"3620 wait", -23},
		// Nothing lies there: a stack without free nodes is full, and an empty one is empty; a ring of none divides by nought; nobody signals.
		{"5 2800 push", -8}, {"5 2800 enq", -10}, {"2800 deq", -10}, {"2800 wait", -28}, {"2800 acquire 2800 acquire", -28},
	} {
		u := throws(t, s, x.text, x.e)
		if x.e != api.Stopped && !slices.Equal(u.S.M, s.S.M) {
			t.Errorf("%q changes the memory", x.text)
		}
		// What was begun is noted, and nothing that is done.
		if x.e != api.Stopped && len(u.S.Hist) != 1 {
			t.Errorf("%q: noted %v", x.text, u.S.Hist)
		}
	}
	does(t, s, "2800 pop", 0, 0)
	does(t, s, "2800 acquire 2800 release 2800 acquire")
	does(t, s, "2800 signal 2800 wait")
}

// TestCaught asks that what a word throws may be caught by one that is not the library's.
func TestCaught(t *testing.T) {
	s := does(t, fresh(t), ": p 5 2050 push ; : q 2800 deq ; : full 5 2800 push ;")
	does(t, s, ": t ['] p catch ; t 5 2048 push 2048 pop", -23, -1, 5, -1)
	does(t, s, ": t ['] q catch ; t", -10)
	does(t, s, ": t ['] full catch ; t t", -8, -8)
}

// TestNotesFull asks of words where there is no room for what they note: none ahead of what they do, or none behind it.
func TestNotesFull(t *testing.T) {
	s := fresh(t)
	s.S.Hist = make([]api.Event, 400)
	u := throws(t, s, "5 2048 push", api.Full)
	if !slices.Equal(u.S.M, s.S.M) {
		t.Error("something is pushed")
	}
	s.S.Hist = make([]api.Event, 399)
	u = throws(t, s, "5 2048 push", api.Full)
	u.S.Hist = nil
	does(t, u, "2048 pop", 5, -1)
}

// TestSystemsApart runs texts with systems that are made from one: they do not come into each other.
func TestSystemsApart(t *testing.T) {
	s := fresh(t)
	m, d := slices.Clone(s.S.M), slices.Clone(s.S.T.D)
	a := does(t, s, "5 2048 push 6 3000 enq", -1, -1)
	b := does(t, s, "7 2048 push 8 3000 enq", -1, -1)
	does(t, emptied(a), "2048 pop 3000 deq", 5, -1, 6, -1)
	does(t, emptied(b), "2048 pop 3000 deq", 7, -1, 8, -1)
	does(t, s, "2048 pop 3000 deq", 0, 0, 0, 0)
	if !slices.Equal(s.S.M, m) || !slices.Equal(s.S.T.D, d) {
		t.Error("the system that they are made from is changed")
	}
}

// tasks runs a kernel of tasks, each of which does one of these words, until all are done; what is chosen at a step may preempt.
func tasks(t *testing.T, s outer.Sys, preempt bool, words ...string) kern.Kern {
	t.Helper()
	var l []kern.Spec
	for _, w := range words {
		i, ok := dict.Find(s.P.Words, w)
		if !ok {
			t.Fatalf("%s is not found", w)
		}
		l = append(l, kern.Spec{At: dict.Addr(s.P.Words[i].P)})
	}
	k := kern.New(s.P, s.S.M, l, 1000)
	for n := 0; n < 5000 && !kern.Over(k); n++ {
		k, _ = kern.Step(k, kern.Choice{Preempt: preempt})
	}
	return k
}

// TestTasks asks that tasks use objects by the library's words alone: what Boot tells to be the library is it.
func TestTasks(t *testing.T) {
	s := does(t, fresh(t), ": use 5 2048 push 2048 pop 6 3000 enq 3000 deq 3600 acquire 3600 release 3616 signal 3616 wait ; : reach 2048 @ ; : note 1 2048 1 note ;")
	k := tasks(t, s, false, "USE", "REACH", "NOTE")
	if got := k.Tasks[0]; got.State != kern.Done || got.Code != 0 || !slices.Equal(got.T.D, []int{-1, 5, -1, -1, 6, -1}) {
		t.Errorf("uses: %+v", got)
	}
	if got := k.Tasks[1]; got.State != kern.Done || got.Code != -9 {
		t.Errorf("reaches: %+v", got)
	}
	if got := k.Tasks[2]; got.State != kern.Done || got.Code != -21 {
		t.Errorf("notes: %+v", got)
	}
	s.P.Lib = 15
	if got := tasks(t, s, false, "USE").Tasks[0]; got.State != kern.Done || got.Code != -21 {
		t.Errorf("uses, with one thread less in the library: %+v", got)
	}
}

// TestTwoTasks has two tasks push on one stack, one instruction by turns: both values are there.
func TestTwoTasks(t *testing.T) {
	s := does(t, fresh(t), ": put 5 2048 push ; : lay 6 3000 enq ;")
	k := tasks(t, s, true, "PUT", "PUT", "LAY", "LAY")
	for id, got := range k.Tasks {
		if got.State != kern.Done || got.Code != 0 || !slices.Equal(got.T.D, []int{-1}) {
			t.Errorf("the task %d: %+v", id, got)
		}
	}
	s.S.M = k.M
	does(t, s, "2048 pop 2048 pop 2048 pop", 5, -1, 5, -1, 0, 0)
	does(t, s, "3000 deq 3000 deq 3000 deq", 6, -1, 6, -1, 0, 0)
}

// TestHeapOnly asks that the objects of most tests leave the data and the users' areas as they were.
func TestHeapOnly(t *testing.T) {
	was, s := booted(t), fresh(t)
	if !slices.Equal(s.S.M[:2048], was.S.M[:2048]) || !slices.Equal(s.S.M[4096:], was.S.M[4096:]) {
		t.Error("something beside the heap is changed")
	}
	if x, e := mem.Get(s.S.M, eventAt); x != 1 || e != api.OK {
		t.Errorf("the event holds %d, throws %d", x, int(e))
	}
}
