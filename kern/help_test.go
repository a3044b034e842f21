package kern

import (
	"bytes"
	"fmt"
	"math"
	"slices"
	"strings"
	"testing"

	"tenterhook/api"
	"tenterhook/dict"
	"tenterhook/op"
	"tenterhook/queue"
	"tenterhook/ret"
	"tenterhook/step"
	"tenterhook/timer"
)

const (
	least     = math.MinInt
	greatest  = math.MaxInt
	lateTick  = 1 << 40
	lastTurn  = 1 << 39
	lastPlace = 1000000*4096 + 4095
)

// The threads of most tests. The first two are the library's.
const (
	thAdd    = iota // one more in the heap's first cell, which takes many steps
	thNote          // ( val at kind -- )
	thTurns         // pauses twice
	thOn            // goes on and on
	thNap           // sleeps, and lays when it woke
	thAgain         // sleeps one tick, again and again
	thBye           // ends, with a cell
	thHere          // asks for something
	thHeld          // asks for something, and catches what is thrown
	thUnder         // takes a cell, where there is none
	thZero          // divides by nought
	thThrow         // throws a number that is above 0
	thStray         // writes into the area of task 0
	thOwn           // writes its number to its own area, and tells it
	thTell          // tells its number, again and again
	thRounds        // tells the rounds of a loop, and lays them
	thShares        // adds to the heap by the library's word, again and again
	thNotes         // notes its number
	thTired         // sleeps as long as the top of the stack says
	thPauses        // pauses, again and again
	thHex           // tells a number by its own base
	thEnd           // goes on behind its end
	thCount
)

// texts are the threads, as texts.
func texts() []string {
	return []string{
		thAdd:    "2048 @ 1+ 2048 ! EXIT",
		thNote:   "NOTE EXIT",
		thTurns:  "PAUSE PAUSE EXIT",
		thOn:     "1 DROP (BRANCH)~0",
		thNap:    "3 SLEEP TICKS EXIT",
		thAgain:  "1 SLEEP TICKS DROP (BRANCH)~0",
		thBye:    "5 BYE",
		thHere:   "5 HERE EXIT",
		thHeld:   "0 CATCH 8 EXIT",
		thUnder:  "DROP EXIT",
		thZero:   "1 0 / EXIT",
		thThrow:  "7 THROW EXIT",
		thStray:  "1 4096 ! EXIT",
		thOwn:    "ME BASE 64 + ! ME . BASE 64 + @ EXIT",
		thTell:   "ME . PAUSE (BRANCH)~0",
		thRounds: "3 0 (DO) I DUP . PAUSE (LOOP)~3 EXIT",
		thShares: "(CALL)~0 (BRANCH)~0",
		thNotes:  fmt.Sprintf("ME 2048 9 (CALL)~%d EXIT", number(thNote, 0)),
		thTired:  "SLEEP TICKS EXIT",
		thPauses: strings.Repeat("PAUSE ", 200) + "(BRANCH)~0",
		thHex:    "HEX 255 . PAUSE DECIMAL 255 . BYE",
		thEnd:    "1",
	}
}

// program is that of most tests: its word is one that asks for something.
func program() step.Prog {
	p := step.Prog{Words: []dict.Entry{{Name: "ASK", Kind: dict.Colon, P: place(thHere, 0)}}, Lib: 2}
	for _, s := range texts() {
		p.Threads = append(p.Threads, thread(s))
	}
	return p
}

// thread is a thread of words: a number is laid, and what stands behind a "~" is an operation's Arg.
func thread(s string) []api.Ins {
	var out []api.Ins
	for w := range strings.FieldsSeq(s) {
		name, arg, ok := strings.Cut(w, "~")
		n := 0
		switch {
		case ok:
			fmt.Sscan(arg, &n)
			out = append(out, ins(name, n))
		case strings.Trim(w, "0123456789") == "":
			fmt.Sscan(w, &n)
			out = append(out, ins("(LIT)", n))
		default:
			out = append(out, ins(w, 0))
		}
	}
	return out
}

// ins is the instruction of an operation's name, a hidden one's too.
func ins(name string, arg int) api.Ins {
	for o := range op.Count {
		if op.Name(o) == name {
			return api.Ins{Op: o, Arg: arg}
		}
	}
	panic("no operation " + name)
}

// place is a place, and number is its number.
func place(th, k int) api.Place { return api.Place{Th: th, At: k} }
func number(th, k int) int      { return 4096*th + k }

// at is where a task begins at a thread's beginning.
func at(th, prio int) Spec { return Spec{At: number(th, 0), Prio: prio} }

// all are tasks of these threads, of the priority 0.
func all(ths ...int) []Spec {
	var l []Spec
	for _, th := range ths {
		l = append(l, at(th, 0))
	}
	return l
}

// fresh is a kernel at its beginning, of the program of most tests.
func fresh(slice int, l ...Spec) Kern { return New(program(), bases(), l, slice) }

// bases is a memory in which 10 is each task's base.
func bases() []byte {
	m := make([]byte, 5120)
	for k := range 8 {
		m[4096+128*k] = 10
	}
	return m
}

// events are n events.
func events(n int) []api.Event {
	out := make([]api.Event, n)
	for k := range out {
		out[k] = api.Event{Task: k % 8, Kind: k, At: 2048 + k, Val: -k}
	}
	return out
}

func none() Choice              { return Choice{} }
func ticks() Choice             { return Choice{Tick: true} }
func preempts(n int) Choice     { return Choice{Preempt: true, N: n} }
func bothOf(n int) Choice       { return Choice{Preempt: true, N: n, Tick: true} }
func onlyN(n int) Choice        { return Choice{N: n} }
func many(c ...Choice) []Choice { return c }

// someChoices are choices of each kind.
func someChoices() []Choice {
	return many(none(), ticks(), preempts(0), preempts(1), preempts(2), preempts(-1), preempts(least), preempts(greatest), bothOf(0), bothOf(1), bothOf(7), onlyN(1))
}

// rich is a kernel with tasks of each state, one of which runs.
func rich() Kern {
	root := []int{-2}
	return Kern{
		P: program(), M: bases(), Hist: events(3), Tick: 25, Cur: 3, Slice: 10,
		Tasks: []Task{
			{T: ret.Task{D: []int{1, 2}, R: root, P: place(thOn, 2)}, Out: "a", Prio: 2, Left: 4, Steps: 5},
			{T: ret.Task{D: []int{3}, R: root, P: place(thNap, 2)}, Out: "b", Prio: 1, State: Asleep, Left: 7, Steps: 2},
			{T: ret.Task{R: root, P: place(thBye, 2)}, Prio: 3, State: Done, Left: 2, Code: 4, Steps: 9},
			{T: ret.Task{D: []int{9}, R: []int{-2, 5, 6}, P: place(thOn, 0)}, Out: "c", Prio: 2, Left: 6, Code: 3, Steps: 8},
			{T: ret.Task{R: root, P: place(thTurns, 1)}, Prio: 4, Left: 10, Steps: 1},
			{T: ret.Task{D: []int{4, 4, 4}, R: root, P: place(thAgain, 2)}, State: Asleep, Left: 1, Steps: lateTick},
			{T: ret.Task{P: place(1000000, 4095)}, Out: "d", Prio: 4, State: Done, Left: 10, Code: -9},
		},
		Q:    queue.Queue{Next: 20, L: []queue.Item{{Id: 4, Prio: 4, Turn: 7}, {Id: 0, Prio: 2, Turn: 3}}},
		Naps: []timer.Nap{{Id: 5, Wake: 27}, {Id: 1, Wake: 30}},
	}
}

// roomyOf is a list with room behind its end, in which stands what nobody is to touch.
func roomyOf[E any](l []E, other E) []E {
	out := append(slices.Clone(l), other, other, other, other, other, other, other, other, other)
	return out[:len(l)]
}

// roomy is a kernel whose lists have room behind their ends, and share none with the one that it is made of.
func roomy(k Kern) Kern {
	k.P.Threads = roomyOf(k.P.Threads, nil)
	for n, th := range k.P.Threads {
		k.P.Threads[n] = roomyOf(th, api.Ins{Op: 7001})
	}
	k.P.Words = roomyOf(k.P.Words, dict.Entry{Name: "R"})
	k.M, k.Hist = roomyOf(k.M, 77), roomyOf(k.Hist, api.Event{Task: 7002})
	k.Tasks = roomyOf(k.Tasks, Task{Out: "room", Prio: 7003})
	for n, x := range k.Tasks {
		k.Tasks[n].T.D, k.Tasks[n].T.R = roomyOf(x.T.D, 7004), roomyOf(x.T.R, 7005)
	}
	k.Q.L, k.Naps = roomyOf(k.Q.L, queue.Item{Id: 7006}), roomyOf(k.Naps, timer.Nap{Id: 7007})
	return k
}

// wholeOf is a list with the room behind it.
func wholeOf[E any](l []E) []E { return slices.Clone(l[:cap(l)]) }

// whole is a kernel with the room behind its lists.
func whole(k Kern) Kern {
	k.P.Threads = wholeOf(k.P.Threads)
	for n, th := range k.P.Threads {
		k.P.Threads[n] = wholeOf(th)
	}
	k.P.Words, k.M, k.Hist, k.Tasks = wholeOf(k.P.Words), wholeOf(k.M), wholeOf(k.Hist), wholeOf(k.Tasks)
	for n, x := range k.Tasks {
		k.Tasks[n].T.D, k.Tasks[n].T.R = wholeOf(x.T.D), wholeOf(x.T.R)
	}
	k.Q.L, k.Naps = wholeOf(k.Q.L), wholeOf(k.Naps)
	return k
}

// sameTask: are two tasks alike?
func sameTask(a, b Task) bool {
	return slices.Equal(a.T.D, b.T.D) && slices.Equal(a.T.R, b.T.R) && a.T.P == b.T.P && a.T.H == b.T.H &&
		a.Out == b.Out && a.Prio == b.Prio && a.State == b.State && a.Left == b.Left && a.Code == b.Code && a.Steps == b.Steps
}

// sameProg: are two programs alike?
func sameProg(a, b step.Prog) bool {
	return slices.EqualFunc(a.Threads, b.Threads, slices.Equal) && slices.Equal(a.Words, b.Words) && a.Lib == b.Lib
}

// same: are two kernels alike? Lists without elements are, nil or not.
func same(a, b Kern) bool {
	return sameProg(a.P, b.P) && bytes.Equal(a.M, b.M) && slices.Equal(a.Hist, b.Hist) && slices.EqualFunc(a.Tasks, b.Tasks, sameTask) &&
		a.Q.Next == b.Q.Next && slices.Equal(a.Q.L, b.Q.L) && slices.Equal(a.Naps, b.Naps) && a.Tick == b.Tick && a.Cur == b.Cur && a.Slice == b.Slice
}

// show tells a kernel, without its program and its memory.
func show(k Kern) string {
	return fmt.Sprintf("{Tasks %+v, Q %v, Naps %v, Hist %d, Tick %d, Cur %d, Slice %d, M %d}", k.Tasks, k.Q, k.Naps, len(k.Hist), k.Tick, k.Cur, k.Slice, len(k.M))
}

// check holds a step against the model, and what was handed in against what it was.
func check(t *testing.T, k Kern, c Choice) (Kern, int) {
	t.Helper()
	want, wantBy := modelStep(k, c)
	in := roomy(k)
	kept := whole(in)
	got, by := Step(in, c)
	if !same(got, want) || by != wantBy {
		t.Errorf("%+v of %s:\ngot %d %s,\nwant %d %s", c, show(k), by, show(got), wantBy, show(want))
	}
	if !same(whole(in), kept) {
		t.Errorf("%+v of %s: what was handed in is changed: %s", c, show(k), show(in))
	}
	return got, by
}

// tells holds a step against the kernel that is wanted, and who made it.
func tells(t *testing.T, k Kern, c Choice, want Kern, wantBy int) {
	t.Helper()
	got, by := check(t, k, c)
	if !same(got, want) || by != wantBy {
		t.Errorf("%+v of %s:\ngot %d %s,\nwant %d %s", c, show(k), by, show(got), wantBy, show(want))
	}
}

// ran are so many steps with one choice: the kernel then, and who made them.
func ran(t *testing.T, k Kern, n int, c Choice) (Kern, []int) {
	t.Helper()
	var by []int
	for range n {
		id := 0
		k, id = check(t, k, c)
		by = append(by, id)
	}
	return k, by
}

// takes holds who made so many steps with one choice against who is wanted.
func takes(t *testing.T, k Kern, c Choice, want ...int) Kern {
	t.Helper()
	k, by := ran(t, k, len(want), c)
	if !slices.Equal(by, want) {
		t.Errorf("%+v: got %v, want %v", c, by, want)
	}
	return k
}
