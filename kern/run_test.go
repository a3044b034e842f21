package kern

import (
	"bytes"
	"fmt"
	"slices"
	"testing"

	"tenterhook/api"
	"tenterhook/queue"
	"tenterhook/ret"
	"tenterhook/step"
	"tenterhook/timer"
)

// P18.4

// checkRun holds a run against so many steps of the model, and what was handed in against what it was.
func checkRun(t *testing.T, k Kern, l []Choice) Kern {
	t.Helper()
	want := k
	if !modelSane(k) {
		want = modelNew(k.P, nil, nil, 1)
	}
	for _, c := range l {
		want, _ = modelStep(want, c)
	}
	in, inL := roomy(k), roomyOf(l, bothOf(7001))
	kept, keptL := whole(in), wholeOf(inL)
	got := Run(in, inL)
	if !same(got, want) {
		t.Errorf("%v of %s:\ngot %s,\nwant %s", l, show(k), show(got), show(want))
	}
	if !same(whole(in), kept) || !slices.Equal(wholeOf(inL), keptL) {
		t.Errorf("%v of %s: what was handed in is changed", l, show(k))
	}
	return got
}

// checkOver holds Over against what is wanted, and what was handed in against what it was.
func checkOver(t *testing.T, k Kern, want bool) {
	t.Helper()
	in := roomy(k)
	kept := whole(in)
	if got := Over(in); got != want {
		t.Errorf("Over is %v of %s", got, show(k))
	}
	if !same(whole(in), kept) {
		t.Errorf("Over changed what was handed in: %s", show(k))
	}
}

func TestRunOfNone(t *testing.T) {
	for _, k := range []Kern{fresh(3), fresh(3, all(thOn, thNap)...), rich()} {
		for _, l := range [][]Choice{nil, {}} {
			if got := checkRun(t, k, l); !same(got, k) {
				t.Error(show(got))
			}
		}
	}
	got := checkRun(t, Kern{P: program(), Tick: 5, Slice: 7}, nil)
	if !same(got, Kern{P: program(), M: make([]byte, 5120), Cur: -1, Slice: 1}) {
		t.Error(show(got))
	}
}

// mixed are choices of each kind, in turn.
func mixed(n int) []Choice {
	var l []Choice
	for k := range n {
		l = append(l, someChoices()[k*k%len(someChoices())])
	}
	return l
}

// busy is a kernel whose tasks do all that tasks do.
func busy() Kern {
	return fresh(4, at(thAgain, 3), at(thShares, 2), at(thTell, 2), at(thNotes, 1), at(thOn, 1), at(thRounds, 4), at(thOwn, 0))
}

func TestRun(t *testing.T) {
	l := mixed(400)
	for _, k := range []Kern{fresh(3), busy(), rich(), fresh(1, all(thTurns, thZero, thHeld)...)} {
		whole := checkRun(t, k, l)
		for _, n := range []int{0, 1, 2, 57, 200, 399, 400} {
			if got := checkRun(t, checkRun(t, k, l[:n]), l[n:]); !same(got, whole) {
				t.Errorf("in two parts, of %d: got %s, want %s", n, show(got), show(whole))
			}
		}
		one := k
		for _, c := range l {
			one, _ = Step(one, c)
		}
		if !same(one, whole) {
			t.Errorf("one by one: got %s, want %s", show(one), show(whole))
		}
	}
}

func TestRunOfMany(t *testing.T) {
	k := Run(busy(), mixed(9000))
	steps := 0
	for _, x := range k.Tasks {
		steps += x.Steps
	}
	if steps != 9000 || !Sane(k) {
		t.Error(steps, show(k))
	}
	// Each choice is heeded, in its place.
	k = checkRun(t, fresh(9, all(thOn, thOn, thOn)...), many(none(), preempts(1), none(), ticks(), bothOf(0), none()))
	if k.Tasks[0].Steps != 2 || k.Tasks[2].Steps != 3 || k.Tasks[1].Steps != 1 || k.Tick != 2 || k.Cur != 1 || !slices.Equal(queue.Ids(k.Q), []int{0, 2}) {
		t.Error(show(k))
	}
}

// A run goes on behind a kernel that may not be any more, as steps do.
func TestRunBeyondLastTurn(t *testing.T) {
	k := fresh(2, all(thPauses, thPauses)...)
	k.Q.Next = lastTurn
	got := checkRun(t, k, many(ticks(), ticks(), ticks()))
	if len(got.Tasks) != 0 || got.Tick != 2 || got.Slice != 1 {
		t.Error(show(got))
	}
}

func TestOver(t *testing.T) {
	checkOver(t, fresh(3), true)
	for mask := range 128 {
		var l []Spec
		for id := range 7 {
			l = append(l, Spec{At: -(mask >> id & 1), Prio: id})
		}
		checkOver(t, fresh(3, l...), mask == 127)
	}
	for id := range 7 {
		for state := range 3 {
			k := spoilt(edges()["all done"])
			k.Tasks[id].State, k.Tasks[id].Prio = state, 0
			switch state {
			case Ready:
				k.Q = queue.Queue{Next: 1, L: []queue.Item{{Id: id}}}
			case Asleep:
				k.Naps = []timer.Nap{{Id: id, Wake: 9}}
			}
			checkOver(t, k, state == Done)
			if state == Ready {
				k.Q.L, k.Cur = nil, id
				checkOver(t, k, false)
			}
		}
	}
	checkOver(t, rich(), false)
	checkOver(t, Kern{}, true)
	checkOver(t, Kern{Tasks: make([]Task, 3)}, true)
	k := fresh(2, all(thTurns, thNap, thZero)...)
	for n := 0; !Over(k); n++ {
		if n > 40 {
			t.Fatal(show(k))
		}
		k, _ = check(t, k, ticks())
	}
	for _, x := range k.Tasks {
		if x.State != Done {
			t.Error(show(k))
		}
	}
}

// P18.5

// The example, and such as it, of several tasks and priorities.
func TestTurns(t *testing.T) {
	takes(t, fresh(9, all(thPauses, thPauses)...), none(), 0, 1, 0, 1, 0, 1)
	takes(t, fresh(9, all(thPauses)...), none(), 0, 0, 0)
	takes(t, fresh(9, all(thPauses, thPauses, thPauses)...), none(), 0, 1, 2, 0, 1, 2, 0)
	takes(t, fresh(9, all(thPauses, thPauses, thPauses, thPauses, thPauses, thPauses, thPauses, thPauses)...), none(), 0, 1, 2, 3, 4, 5, 6, 0, 1)
	// Those of lower priorities wait till nobody above is ready.
	takes(t, fresh(9, at(thPauses, 1), at(thPauses, 3), at(thPauses, 2), at(thPauses, 3)), none(), 1, 3, 1, 3, 1)
	k := takes(t, fresh(9, at(thTurns, 1), at(thTurns, 4), at(thTurns, 2), at(thTurns, 4)), none(), 1, 3, 1, 3, 1, 3, 2, 2, 2, 0, 0, 0, -1, -1)
	if !Over(k) || k.Q.Next != 12 {
		t.Error(show(k))
	}
	// By slices, by turns of steps.
	takes(t, fresh(1, all(thOn, thOn)...), none(), 0, 1, 0, 1, 0)
	takes(t, fresh(3, all(thOn, thOn)...), none(), 0, 0, 0, 1, 1, 1, 0, 0, 0)
	takes(t, fresh(3, all(thOn, thPauses, thOn)...), none(), 0, 0, 0, 1, 2, 2, 2, 0, 0, 0, 1)
	k, _ = ran(t, fresh(1000, all(thOn, thOn)...), 1000, none())
	takes(t, k, none(), 1, 1, 1)
}

// Who sleeps is woken by ticks alone, then waits for its turn.
func TestSleepAndWake(t *testing.T) {
	k := takes(t, fresh(9, all(thNap)...), none(), 0, 0, -1, -1)
	if !slices.Equal(k.Naps, []timer.Nap{{Wake: 3}}) || k.Tasks[0].State != Asleep {
		t.Error(show(k))
	}
	k = takes(t, k, ticks(), -1, -1, -1, 0, 0, -1)
	if k.Tick != 6 || !slices.Equal(k.Tasks[0].T.D, []int{3}) || !Over(k) {
		t.Error(show(k))
	}
	// Who sleeps one tick, where each step is one, wakes in the same step, and goes ahead of lower priorities; who sleeps longer does so when the slice of who runs then is over.
	takes(t, fresh(9, at(thAgain, 4), at(thOn, 1)), ticks(), 0, 0, 0, 0, 0, 0, 0, 0, 0, 0)
	takes(t, fresh(9, at(thNap, 4), at(thOn, 1)), ticks(), 0, 0, 1, 1, 1, 1, 1, 1, 1, 1, 1, 0, 0, 1)
}

func TestHeadIsTaken(t *testing.T) {
	l := &lot{n: 18}
	for range 400 {
		k := l.kern()
		for range 20 {
			c := l.choice()
			got, by := Step(k, c)
			if k.Cur == -1 && len(k.Q.L) == 0 && by != -1 || k.Cur == -1 && len(k.Q.L) > 0 && by != k.Q.L[0].Id || k.Cur >= 0 && by != k.Cur {
				t.Fatal(by, show(k))
			}
			for _, x := range k.Q.L {
				if by >= 0 && k.Cur == -1 && (x.Prio > k.Tasks[by].Prio || x.Prio == k.Tasks[by].Prio && x.Turn < k.Q.L[0].Turn) {
					t.Fatal(by, show(k))
				}
			}
			k = got
		}
	}
}

// A fault ends who made it, and changes nothing of others.
func TestFaults(t *testing.T) {
	for _, x := range []struct{ th, code int }{{thUnder, -4}, {thZero, -10}, {thThrow, 7}, {thStray, -9}, {thHere, -21}, {thEnd, -9}} {
		k := fresh(9, all(thPauses, thTell, thNap, x.th, thPauses)...)
		k, _ = ran(t, k, 4, none())
		for range 200 {
			got, by := check(t, k, none())
			if by == 3 && got.Tasks[3].State == Done {
				others := slices.DeleteFunc(slices.Clone(k.Q.L), func(i queue.Item) bool { return i.Id == 3 })
				if got.Tasks[3].Code != x.code || !bytes.Equal(got.M, k.M) || !slices.Equal(got.Hist, k.Hist) || !slices.Equal(got.Naps, k.Naps) || !slices.Equal(got.Q.L, others) {
					t.Error(x, show(got))
				}
			}
			for id := range k.Tasks {
				if id != by && !sameTask(got.Tasks[id], k.Tasks[id]) {
					t.Error(x, id, by, show(got))
				}
			}
			k = got
		}
		if k.Tasks[3].Code != x.code || k.Tasks[3].State != Done || k.Tasks[0].Steps < 30 {
			t.Error(x, show(k))
		}
	}
}

// trace is what a task is behind each of its own steps, with its own area.
func trace(k Kern, id int, l []Choice) []string {
	var out []string
	for _, c := range l {
		by := 0
		if k, by = Step(k, c); by == id {
			x := k.Tasks[id]
			out = append(out, fmt.Sprint(x.T, x.Out, x.Prio, x.Code, x.State == Done, x.Steps, k.M[4096+128*id:4096+128*(id+1)]))
		}
	}
	return out
}

// A task that keeps to its own takes the same steps as alone, whatever others do, and whoever is preempted.
func TestAsAlone(t *testing.T) {
	own := []int{thTurns, thOn, thBye, thHere, thHeld, thUnder, thZero, thThrow, thOwn, thTell, thRounds, thHex, thPauses, thEnd}
	l := &lot{n: 5}
	for range 60 {
		var specs []Spec
		for range 1 + l.below(7) {
			specs = append(specs, at(own[l.below(len(own))], l.below(5)))
		}
		var choices []Choice
		for range 300 {
			choices = append(choices, l.choice())
		}
		for id := range specs {
			alone := slices.Clone(specs)
			for o := range alone {
				if o != id {
					alone[o].At = -1
				}
			}
			slice := 1 + l.below(6)
			among := trace(fresh(slice, specs...), id, choices)
			want := trace(fresh(9, alone...), id, make([]Choice, 300))
			if !slices.Equal(among, want[:min(len(among), len(want))]) || len(among) > 0 && len(want) < len(among) {
				t.Fatal(specs, id, among, want)
			}
		}
	}
}

// P1, and all of P18 at mixes

// lot is a row of numbers that are hard to foresee, the same one each time.
type lot struct{ n uint64 }

func (l *lot) below(n int) int {
	l.n = l.n*6364136223846793005 + 1442695040888963407
	return int(l.n >> 33 % uint64(n))
}

func (l *lot) of(some []int) int { return some[l.below(len(some))] }

// odd are numbers of any size.
func odd() []int {
	return []int{least, -lateTick, -2, -1, 0, 1, 2, 3, 4, 5, 6, 7, 8, 9, 10, 63, 999, 1000, 1001, 4095, 4096, lastTurn, lastTurn + 1, lateTick - 1, lateTick, lateTick + 1, 1 << 50, greatest}
}

// choice is one of any kind; most preempt nobody.
func (l *lot) choice() Choice {
	return Choice{Preempt: l.below(3) == 0, N: l.of(odd()), Tick: l.below(3) == 0}
}

// kern is one that may be, with tasks at any of the threads.
func (l *lot) kern() Kern {
	var specs []Spec
	for range l.below(9) {
		specs = append(specs, Spec{At: number(l.below(thCount+1), l.below(3)), Prio: l.below(5)})
	}
	k := fresh(l.of([]int{1, 2, 3, 5, 9, 1000}), specs...)
	k.Tick = l.of([]int{0, 0, 5, lateTick - 9, lateTick})
	k.Q.Next += l.of([]int{0, 0, 7, lastTurn - 40})
	k.Hist = events(l.of([]int{0, 0, 1, 398, 400}))
	for id := range k.Tasks {
		x := &k.Tasks[id]
		x.T.D = []int{l.of(odd()), l.of(odd()), l.below(9)}[:l.below(4)]
		x.Out = long(l.of([]int{0, 0, 1, 995, 1000}))
		x.Left = 1 + l.below(k.Slice)
		x.Steps = l.of([]int{0, 1, lateTick - 3, lateTick})
		x.Code = l.of(odd())
	}
	return k
}

func TestMixes(t *testing.T) {
	l := &lot{n: 3}
	var kinds [3]int
	asleep, insane := 0, 0
	for range 450 {
		k := l.kern()
		if !Sane(k) {
			t.Fatal("not sane:", show(k))
		}
		for range 60 {
			got, _ := check(t, k, l.choice())
			if Sane(got) != (got.Q.Next <= lastTurn) {
				t.Fatal("not sane any more:", show(got))
			}
			if !Sane(got) {
				insane++
			}
			k = got
			for _, x := range k.Tasks {
				kinds[x.State]++
			}
			asleep += len(k.Naps)
		}
		if t.Failed() {
			return
		}
	}
	if slices.Min(kinds[:]) < 1000 || asleep != kinds[Asleep] || insane < 10 {
		t.Error("a kind that is hardly met:", kinds, asleep, insane)
	}
}

// A number or two of a kernel is another one: it may be or may not, and each call does as the model does.
func TestSaneMixes(t *testing.T) {
	l := &lot{n: 7}
	good, bad := 0, 0
	for range 3000 {
		k := l.kern()
		for range l.below(20) {
			k, _ = Step(k, l.choice())
		}
		k = roomy(k)
		for range l.below(3) {
			l.spoil(&k)
		}
		want := modelSane(k)
		checkSane(t, "a mix", k, want)
		check(t, k, l.choice())
		if want {
			good++
		} else {
			bad++
		}
		if t.Failed() {
			return
		}
	}
	if good < 500 || bad < 500 {
		t.Error("one-sided:", good, bad)
	}
}

// spoil is with another number in one place.
func (l *lot) spoil(k *Kern) {
	some := []*int{&k.Tick, &k.Cur, &k.Slice, &k.Q.Next}
	for id := range k.Tasks {
		x := &k.Tasks[id]
		some = append(some, &x.Prio, &x.State, &x.State, &x.Left, &x.Steps, &x.T.H, &x.T.P.Th, &x.T.P.At)
	}
	for n := range k.Q.L {
		some = append(some, &k.Q.L[n].Id, &k.Q.L[n].Prio, &k.Q.L[n].Turn)
	}
	for n := range k.Naps {
		some = append(some, &k.Naps[n].Id, &k.Naps[n].Wake)
	}
	*some[l.below(len(some))] = l.of(odd())
}

// Kernels of any kind, of which each call ends.
func TestAnyKernel(t *testing.T) {
	few := []int{least, -1, 0, 1, 5, lateTick, greatest}
	for _, n := range few {
		for _, o := range few {
			for _, k := range []Kern{
				{Tick: n, Cur: o, Slice: n}, {M: make([]byte, 5120), Slice: 3, Tick: 4, Cur: o, Tasks: []Task{{Left: 2, State: n}}},
				{M: make([]byte, 5120), Slice: 3, Cur: -1, Q: queue.Queue{Next: n, L: []queue.Item{{Id: o, Prio: n, Turn: o}}}, Tasks: make([]Task, 9)},
				{M: make([]byte, 5120), Slice: 3, Cur: n, Naps: []timer.Nap{{Id: n, Wake: o}}, Tasks: []Task{{Left: 1}, {Left: 3, State: 1}}},
				{M: make([]byte, 5120), Slice: 3, Cur: 0, Tasks: []Task{{Left: 1, T: ret.Task{P: place(n, o), H: o}}}, P: step.Prog{Lib: n, Threads: [][]api.Ins{{{Op: n, Arg: o}}, nil}}},
			} {
				checkSane(t, "any", k, modelSane(k))
				checkOver(t, k, !slices.ContainsFunc(modelOf(k).tasks, func(x waiter) bool { return x.State != 2 }))
				for _, c := range []Choice{none(), bothOf(n), preempts(o)} {
					check(t, k, c)
				}
				checkRun(t, k, many(bothOf(n), bothOf(o)))
			}
			checkNew(t, nil, []Spec{{At: n, Prio: o}, {At: o, Prio: n}}, n)
		}
	}
	for _, p := range []step.Prog{{}, {Threads: [][]api.Ins{}}, {Threads: [][]api.Ins{nil, {}}, Lib: greatest}} {
		k := New(p, nil, []Spec{{}, {At: 4096}, {At: lastPlace}}, 2)
		k = checkRun(t, k, make([]Choice, 9))
		for _, x := range k.Tasks {
			if x.State != Done || x.Code != -9 || x.Steps != 1 {
				t.Error(x)
			}
		}
	}
}

// R3

// Two kernels that are made from one do not come into each other, nor into that one.
func TestTwoOfOne(t *testing.T) {
	for th := range thCount {
		in := roomy(fresh(2, all(th, thShares, thNotes, th, thAgain)...))
		in, _ = Step(in, none())
		in = roomy(in)
		kept := whole(in)
		for _, c := range someChoices() {
			one, _ := Step(in, c)
			keptOne := whole(one)
			for _, o := range someChoices() {
				other, _ := Step(in, o)
				Run(other, mixed(20))
				Run(one, slices.Repeat(many(o), 20))
				New(one.P, one.M, all(thShares, thNotes), 3)
			}
			if !same(whole(one), keptOne) {
				t.Error(th, c, "came into another one")
			}
		}
		if !same(whole(in), kept) {
			t.Error(th, "what was handed in is changed")
		}
	}
}

// Kernels of one memory, and of one list, are apart.
func TestNewApart(t *testing.T) {
	m, l := bases(), all(thOwn, thShares)
	one, other := New(program(), m, l, 9), New(program(), m, l, 9)
	keptOne := whole(one)
	other = Run(other, make([]Choice, 60))
	Run(one, make([]Choice, 9))
	if !same(whole(one), keptOne) || !bytes.Equal(m, bases()) || bytes.Equal(other.M, m) {
		t.Error("one came into another one")
	}
}

// What a call answers hangs on nothing but what it was given.
func TestTwice(t *testing.T) {
	l := &lot{n: 11}
	for range 100 {
		k := l.kern()
		var choices []Choice
		for range 50 {
			choices = append(choices, l.choice())
		}
		if one, other := Run(k, choices), Run(roomy(k), choices); !same(one, other) {
			t.Error(show(one), show(other))
		}
	}
}
