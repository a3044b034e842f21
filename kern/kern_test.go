package kern

import (
	"bytes"
	"fmt"
	"slices"
	"strings"
	"testing"

	"tenterhook/api"
	"tenterhook/queue"
	"tenterhook/ret"
	"tenterhook/step"
	"tenterhook/timer"
)

func TestStates(t *testing.T) {
	if got := []int{Ready, Asleep, Done}; !slices.Equal(got, []int{0, 1, 2}) {
		t.Error(got)
	}
}

// P18.1

// checkNew holds a kernel at its beginning against the model, and what was handed in against what it was.
func checkNew(t *testing.T, m []byte, l []Spec, slice int) Kern {
	t.Helper()
	in := roomy(Kern{P: program(), M: m})
	inL := roomyOf(l, Spec{At: 7001, Prio: 7002})
	kept, keptL := whole(in), wholeOf(inL)
	got := New(in.P, in.M, inL, slice)
	if want := modelNew(program(), m, l, slice); !same(got, want) {
		t.Errorf("%v, %d: got %s, want %s", l, slice, show(got), show(want))
	}
	if !Sane(got) {
		t.Errorf("%v, %d: not sane: %s", l, slice, show(got))
	}
	if !same(whole(in), kept) || !slices.Equal(wholeOf(inL), keptL) {
		t.Errorf("%v, %d: what was handed in is changed", l, slice)
	}
	return got
}

func TestNew(t *testing.T) {
	l := []Spec{at(thTurns, 2), at(thOn, 0), {At: lastPlace, Prio: 4}, {At: -1, Prio: 2}, {At: 5, Prio: -1}, at(thBye, 9), at(thHere, 0), at(thOn, 3), at(thOn, 3)}
	root := []int{-2}
	tasks := []Task{
		{T: ret.Task{R: root, P: place(thTurns, 0)}, Prio: 2, Left: 9},
		{T: ret.Task{R: root, P: place(thOn, 0)}, Left: 9},
		{T: ret.Task{R: root, P: place(1000000, 4095)}, Prio: 4, Left: 9},
		{T: ret.Task{R: root}, Prio: 2, State: Done, Left: 9, Code: -9},
		{T: ret.Task{R: root, P: place(0, 5)}, Left: 9},
		{T: ret.Task{R: root, P: place(thBye, 0)}, Prio: 4, Left: 9},
		{T: ret.Task{R: root, P: place(thHere, 0)}, Left: 9},
	}
	items := []queue.Item{{Id: 2, Prio: 4, Turn: 2}, {Id: 5, Prio: 4, Turn: 4}, {Id: 0, Prio: 2, Turn: 0}, {Id: 1, Turn: 1}, {Id: 4, Turn: 3}, {Id: 6, Turn: 5}}
	for n := range len(l) + 1 {
		have := min(n, 7)
		q := queue.Queue{Next: have}
		if have > 3 {
			q.Next--
		}
		for _, i := range items {
			if i.Id < have {
				q.L = append(q.L, i)
			}
		}
		want := Kern{P: program(), M: bases(), Tasks: tasks[:have], Q: q, Cur: -1, Slice: 9}
		if got := checkNew(t, bases(), l[:n], 9); !same(got, want) {
			t.Errorf("%d: got %s, want %s", n, show(got), show(want))
		}
	}
}

func TestNewOfNone(t *testing.T) {
	for _, l := range [][]Spec{nil, {}} {
		got := checkNew(t, nil, l, 1)
		if want := (Kern{P: program(), M: make([]byte, 5120), Cur: -1, Slice: 1}); !same(got, want) {
			t.Error(show(got))
		}
	}
	if got := New(step.Prog{}, nil, nil, 0); !same(got, Kern{M: make([]byte, 5120), Cur: -1, Slice: 1}) {
		t.Error(show(got))
	}
}

// No more than seven are tasks, whatever comes behind them, and each waits in its turn.
func TestNewOfMany(t *testing.T) {
	for _, n := range []int{6, 7, 8, 9, 100, 5000} {
		l := slices.Repeat([]Spec{at(thOn, 1)}, n)
		got := checkNew(t, nil, l, 5)
		if len(got.Tasks) != min(n, 7) || !slices.Equal(queue.Ids(got.Q), []int{0, 1, 2, 3, 4, 5, 6}[:min(n, 7)]) || got.Q.Next != min(n, 7) {
			t.Error(n, show(got))
		}
	}
	// Who has no place takes one of the seven numbers, too.
	got := checkNew(t, nil, append(slices.Repeat([]Spec{{At: -1}}, 7), at(thOn, 4)), 5)
	if len(got.Tasks) != 7 || len(got.Q.L) != 0 || got.Q.Next != 0 || !Over(got) {
		t.Error(show(got))
	}
}

func TestNewSlice(t *testing.T) {
	for _, x := range []struct{ slice, want int }{{least, 1}, {-1000, 1}, {-1, 1}, {0, 1}, {1, 1}, {2, 2}, {256, 256}, {999, 999}, {1000, 1000}, {1001, 1000}, {1 << 40, 1000}, {greatest, 1000}} {
		got := checkNew(t, nil, []Spec{{}, {At: -1}}, x.slice)
		if got.Slice != x.want || got.Tasks[0].Left != x.want || got.Tasks[1].Left != x.want {
			t.Error(x, show(got))
		}
	}
}

func TestNewPrio(t *testing.T) {
	for _, x := range []struct{ prio, want int }{{least, 0}, {-5, 0}, {-1, 0}, {0, 0}, {1, 1}, {2, 2}, {3, 3}, {4, 4}, {5, 4}, {6, 4}, {1 << 32, 4}, {greatest, 4}} {
		got := checkNew(t, nil, []Spec{{Prio: x.prio}, {At: -1, Prio: x.prio}}, 3)
		if got.Tasks[0].Prio != x.want || got.Tasks[1].Prio != x.want || !slices.Equal(got.Q.L, []queue.Item{{Prio: x.want}}) {
			t.Error(x, show(got))
		}
	}
}

func TestNewAt(t *testing.T) {
	for _, x := range []struct {
		at   int
		want api.Place
		ok   bool
	}{
		{0, place(0, 0), true}, {1, place(0, 1), true}, {4095, place(0, 4095), true}, {4096, place(1, 0), true}, {3*4096 + 7, place(3, 7), true}, {lastPlace - 4095, place(1000000, 0), true}, {lastPlace, place(1000000, 4095), true},
		{lastPlace + 1, place(0, 0), false}, {1 << 40, place(0, 0), false}, {greatest, place(0, 0), false}, {-1, place(0, 0), false}, {-4096, place(0, 0), false}, {least, place(0, 0), false},
	} {
		got := checkNew(t, nil, []Spec{{At: x.at, Prio: 2}}, 3)
		want := Task{T: ret.Task{R: []int{-2}, P: x.want}, Prio: 2, Left: 3}
		q := queue.Queue{Next: 1, L: []queue.Item{{Prio: 2}}}
		if !x.ok {
			want.State, want.Code, q = Done, -9, queue.Queue{}
		}
		if !sameTask(got.Tasks[0], want) || got.Q.Next != q.Next || !slices.Equal(got.Q.L, q.L) {
			t.Error(x, show(got))
		}
	}
}

func TestNewMemory(t *testing.T) {
	for _, n := range []int{0, 1, 8, 128, 4096, 5112, 5119, 5120, 5121, 5128, 10240} {
		m := bytes.Repeat([]byte{5, 6, 7}, 4000)[:n]
		got := checkNew(t, m, all(thOn), 3)
		want := make([]byte, 5120)
		if n == 5120 {
			want = m
		}
		if !bytes.Equal(got.M, want) {
			t.Error(n, len(got.M))
		}
	}
	if got := checkNew(t, nil, nil, 1); !bytes.Equal(got.M, make([]byte, 5120)) {
		t.Error(len(got.M))
	}
}

// P18.2

// long is a text of n bytes.
func long(n int) string { return strings.Repeat("x", n) }

// pool are n items of one priority, of the numbers from 0 on.
func pool(n int) queue.Queue {
	q := queue.Queue{Next: n}
	for id := range n {
		q.L = append(q.L, queue.Item{Id: id, Turn: id})
	}
	return q
}

// edges are kernels that may be, at the edges.
func edges() map[string]func(k *Kern) {
	return map[string]func(k *Kern){
		"as it is":              func(k *Kern) {},
		"Tick 0":                func(k *Kern) { k.Tick = 0 },
		"Tick one below":        func(k *Kern) { k.Tick = lateTick - 1 },
		"Tick at its end":       func(k *Kern) { k.Tick = lateTick },
		"Slice 1000":            func(k *Kern) { k.Slice = 1000 },
		"Slice as Left":         func(k *Kern) { k.Tasks[3].Left = k.Slice },
		"Slice 1":               func(k *Kern) { k.Slice = 1; setLeft(k, 1) },
		"Left 1":                func(k *Kern) { setLeft(k, 1) },
		"Left Slice":            func(k *Kern) { setLeft(k, 10) },
		"no Hist":               func(k *Kern) { k.Hist = nil },
		"all of Hist":           func(k *Kern) { k.Hist = events(400) },
		"Next as far":           func(k *Kern) { k.Q.Next = lastTurn },
		"Next just above turns": func(k *Kern) { k.Q.Next = 8 },
		"Cur none":              func(k *Kern) { k.Cur = -1; k.Tasks[3].State = Done },
		"Cur none, in queue": func(k *Kern) {
			k.Cur = -1
			k.Q.L = append(slices.Clone(k.Q.L), queue.Item{Id: 3, Prio: 2, Turn: 10})
		},
		"Cur another":   func(k *Kern) { k.Cur = 4; k.Q.L = []queue.Item{{Id: 0, Prio: 2, Turn: 3}, {Id: 3, Prio: 2, Turn: 4}} },
		"Cur alone":     func(k *Kern) { k.Q.L = nil; k.Tasks[0].State, k.Tasks[4].State = Done, Done },
		"Out of 1000":   func(k *Kern) { k.Tasks[1].Out, k.Tasks[2].Out, k.Tasks[3].Out = long(1000), long(1000), long(1000) },
		"Steps 0":       func(k *Kern) { k.Tasks[3].Steps = 0 },
		"Steps all":     func(k *Kern) { k.Tasks[3].Steps, k.Tasks[0].Steps = lateTick, lateTick },
		"any Code":      func(k *Kern) { k.Tasks[0].Code, k.Tasks[1].Code, k.Tasks[3].Code = least, greatest, -1 },
		"stacks full":   func(k *Kern) { k.Tasks[3].T.D, k.Tasks[3].T.R = make([]int, 64), make([]int, 64) },
		"a catch":       func(k *Kern) { k.Tasks[3].T.H = 3 },
		"Prio 0, not 2": func(k *Kern) { k.Tasks[0].Prio = 0; k.Q.L[1].Prio = 0 },
		"Prio of Cur":   func(k *Kern) { k.Tasks[3].Prio = 0 },
		"Prio 4 of Cur": func(k *Kern) { k.Tasks[3].Prio = 4 },
		"Prio asleep":   func(k *Kern) { k.Tasks[1].Prio = 4 },
		"naps past":     func(k *Kern) { k.Naps = []timer.Nap{{Id: 5, Wake: 0}, {Id: 1, Wake: 25}} },
		"naps far":      func(k *Kern) { k.Naps = []timer.Nap{{Id: 5, Wake: 1 << 50}, {Id: 1, Wake: 1 << 50}} },
		"no naps":       func(k *Kern) { k.Naps = nil; k.Tasks[1].State, k.Tasks[5].State = Done, Done },
		"no tasks":      func(k *Kern) { *k = Kern{M: k.M, Cur: -1, Slice: 1} },
		"all at work": func(k *Kern) {
			k.Cur, k.Naps, k.Q = -1, nil, pool(7)
			for id := range k.Tasks {
				k.Tasks[id].State, k.Tasks[id].Prio = Ready, 0
			}
		},
		"all asleep": func(k *Kern) {
			k.Cur, k.Naps, k.Q = -1, nil, queue.Queue{Next: 5}
			for id := range k.Tasks {
				k.Tasks[id].State = Asleep
				k.Naps = append(k.Naps, timer.Nap{Id: id, Wake: 30})
			}
		},
		"all done": func(k *Kern) {
			k.Cur, k.Naps, k.Q = -1, nil, queue.Queue{}
			for id := range k.Tasks {
				k.Tasks[id].State = Done
			}
		},
		"no threads":   func(k *Kern) { k.P = step.Prog{} },
		"any Lib":      func(k *Kern) { k.P.Lib = least },
		"other places": func(k *Kern) { k.Tasks[3].T.P = place(1000000, 4095) },
	}
}

// setLeft is with one Left for all tasks.
func setLeft(k *Kern, n int) {
	for id := range k.Tasks {
		k.Tasks[id].Left = n
	}
}

// spoils are kernels that may not be, of each kind.
func spoils() map[string]func(k *Kern) {
	return map[string]func(k *Kern){
		"no memory":       func(k *Kern) { k.M = nil },
		"a byte too few":  func(k *Kern) { k.M = k.M[:5119] },
		"a byte too many": func(k *Kern) { k.M = append(slices.Clone(k.M), 0) },
		"eight tasks":     func(k *Kern) { k.Tasks = append(slices.Clone(k.Tasks), k.Tasks[2]) },
		"eight tasks, all done": func(k *Kern) {
			*k = Kern{M: k.M, Cur: -1, Slice: 1, Tasks: slices.Repeat([]Task{{State: Done, Left: 1}}, 8)}
		},
		"eight tasks, one ready": func(k *Kern) {
			k.Tasks = append(slices.Clone(k.Tasks), k.Tasks[0])
			k.Q = queue.Queue{Next: 20, L: append(slices.Clone(k.Q.L), queue.Item{Id: 7, Prio: 2, Turn: 9})}
		},
		"many tasks":              func(k *Kern) { k.Tasks = make([]Task, 300) },
		"Tick -1":                 func(k *Kern) { k.Tick = -1 },
		"Tick least":              func(k *Kern) { k.Tick = least },
		"Tick one more":           func(k *Kern) { k.Tick = lateTick + 1 },
		"Tick greatest":           func(k *Kern) { k.Tick = greatest },
		"Slice 0":                 func(k *Kern) { k.Slice = 0 },
		"Slice 0, no tasks":       func(k *Kern) { *k = Kern{M: k.M, Cur: -1} },
		"Slice -1":                func(k *Kern) { k.Slice = -1 },
		"Slice below Left":        func(k *Kern) { k.Slice = 9 },
		"Slice 1001":              func(k *Kern) { k.Slice = 1001 },
		"Slice greatest":          func(k *Kern) { k.Slice = greatest },
		"too much in Hist":        func(k *Kern) { k.Hist = events(401) },
		"queue out of order":      func(k *Kern) { slices.Reverse(k.Q.L) },
		"queue with two of one":   func(k *Kern) { k.Q.L = append(slices.Clone(k.Q.L), queue.Item{Id: 0, Prio: 2, Turn: 5}) },
		"Next not above turns":    func(k *Kern) { k.Q.Next = 7 },
		"Next one more":           func(k *Kern) { k.Q.Next = lastTurn + 1 },
		"Next 2^40":               func(k *Kern) { k.Q.Next = lateTick },
		"Next below 0":            func(k *Kern) { k.Q.Next = -1 },
		"naps out of order":       func(k *Kern) { slices.Reverse(k.Naps) },
		"naps too far":            func(k *Kern) { k.Naps[1].Wake = 1<<50 + 1 },
		"one naps twice":          func(k *Kern) { k.Naps = append(slices.Clone(k.Naps), timer.Nap{Id: 1, Wake: 40}) },
		"Cur -2":                  func(k *Kern) { k.Cur = -2 },
		"Cur least":               func(k *Kern) { k.Cur = least },
		"Cur as many":             func(k *Kern) { k.Cur = 7 },
		"Cur one more":            func(k *Kern) { k.Cur = 8 },
		"Cur greatest":            func(k *Kern) { k.Cur = greatest },
		"Cur 0, no tasks":         func(k *Kern) { *k = Kern{M: k.M, Slice: 1} },
		"Cur none, ready nowhere": func(k *Kern) { k.Cur = -1 },
		"Cur asleep":              func(k *Kern) { k.Tasks[3].State = Asleep },
		"Cur asleep, in naps": func(k *Kern) {
			k.Tasks[3].State = Asleep
			k.Naps = append(slices.Clone(k.Naps), timer.Nap{Id: 3, Wake: 50})
		},
		"Cur done":                func(k *Kern) { k.Tasks[3].State = Done },
		"Cur in the queue":        func(k *Kern) { k.Q.L = append(slices.Clone(k.Q.L), queue.Item{Id: 3, Prio: 2, Turn: 10}) },
		"Cur in naps":             func(k *Kern) { k.Naps = append(slices.Clone(k.Naps), timer.Nap{Id: 3, Wake: 50}) },
		"Cur is one that waits":   func(k *Kern) { k.Cur = 0 },
		"Cur is one that sleeps":  func(k *Kern) { k.Cur = 1 },
		"Cur is one that is done": func(k *Kern) { k.Cur = 2 },
		"too much on D":           func(k *Kern) { k.Tasks[0].T.D = make([]int, 65) },
		"too much on R":           func(k *Kern) { k.Tasks[1].T.R = make([]int, 65) },
		"a catch of one":          func(k *Kern) { k.Tasks[2].T.H = 1 },
		"a catch beyond R":        func(k *Kern) { k.Tasks[3].T.H = 4 },
		"no place":                func(k *Kern) { k.Tasks[6].T.P = place(-1, 0) },
		"no place any more":       func(k *Kern) { k.Tasks[6].T.P = place(0, 4096) },
		"Prio -1":                 func(k *Kern) { k.Tasks[3].Prio = -1 },
		"Prio -1, asleep":         func(k *Kern) { k.Tasks[1].Prio = -1 },
		"Prio 5":                  func(k *Kern) { k.Tasks[3].Prio = 5 },
		"Prio 5, done":            func(k *Kern) { k.Tasks[2].Prio = 5 },
		"Prio 5, in the queue":    func(k *Kern) { k.Tasks[4].Prio = 5; k.Q.L[0].Prio = 5 },
		"State -1":                func(k *Kern) { k.Tasks[2].State = -1 },
		"State 3":                 func(k *Kern) { k.Tasks[2].State = 3 },
		"State greatest":          func(k *Kern) { k.Tasks[6].State = greatest },
		"Left 0":                  func(k *Kern) { k.Tasks[3].Left = 0 },
		"Left 0, in the queue":    func(k *Kern) { k.Tasks[0].Left = 0 },
		"Left 0, asleep":          func(k *Kern) { k.Tasks[1].Left = 0 },
		"Left 0, done":            func(k *Kern) { k.Tasks[2].Left = 0 },
		"Left -1":                 func(k *Kern) { k.Tasks[4].Left = -1 },
		"Left above Slice":        func(k *Kern) { k.Tasks[3].Left = 11 },
		"Left above, done":        func(k *Kern) { k.Tasks[6].Left = 11 },
		"Left greatest":           func(k *Kern) { k.Tasks[0].Left = greatest },
		"Steps -1":                func(k *Kern) { k.Tasks[3].Steps = -1 },
		"Steps least, done":       func(k *Kern) { k.Tasks[2].Steps = least },
		"Steps one more":          func(k *Kern) { k.Tasks[5].Steps = lateTick + 1 },
		"Out of 1001":             func(k *Kern) { k.Tasks[3].Out = long(1001) },
		"Out of 1001, done":       func(k *Kern) { k.Tasks[6].Out = long(1001) },
		"ready, nowhere":          func(k *Kern) { k.Q.L = k.Q.L[:1] },
		"all ready, nowhere":      func(k *Kern) { k.Q.L = nil },
		"ready, in naps":          func(k *Kern) { k.Q.L = k.Q.L[:1]; k.Naps = append(slices.Clone(k.Naps), timer.Nap{Id: 0, Wake: 50}) },
		"ready, in both":          func(k *Kern) { k.Naps = append(slices.Clone(k.Naps), timer.Nap{Id: 0, Wake: 50}) },
		"ready, another Prio":     func(k *Kern) { k.Q.L[1].Prio = 1 },
		"ready, another, of it":   func(k *Kern) { k.Tasks[0].Prio = 3 },
		"asleep, nowhere":         func(k *Kern) { k.Naps = k.Naps[:1] },
		"all asleep, nowhere":     func(k *Kern) { k.Naps = nil },
		"asleep, in the queue": func(k *Kern) {
			k.Naps = k.Naps[:1]
			k.Q.L = append(slices.Clone(k.Q.L), queue.Item{Id: 1, Prio: 1, Turn: 9})
		},
		"asleep, in both":     func(k *Kern) { k.Q.L = append(slices.Clone(k.Q.L), queue.Item{Id: 1, Prio: 1, Turn: 9}) },
		"asleep, but in naps": func(k *Kern) { k.Tasks[0].State = Asleep },
		"ready, but in naps":  func(k *Kern) { k.Tasks[1].State = Ready },
		"done, in the queue":  func(k *Kern) { k.Tasks[0].State = Done },
		"done, in naps":       func(k *Kern) { k.Tasks[5].State = Done },
		"done, in queue and naps": func(k *Kern) {
			k.Q.L = append(slices.Clone(k.Q.L), queue.Item{Id: 2, Prio: 3, Turn: 9})
			k.Naps = append(slices.Clone(k.Naps), timer.Nap{Id: 2, Wake: 50})
		},
		"one that sleeps for one": func(k *Kern) { k.Naps[1].Id = 2 },
		"one that waits for one":  func(k *Kern) { k.Q.L[1].Id = 2; k.Tasks[2].Prio = 2 },
		"none's in the queue":     func(k *Kern) { k.Q.L = append(slices.Clone(k.Q.L), queue.Item{Id: 7, Turn: 9}) },
		"none's in naps":          func(k *Kern) { k.Naps = append(slices.Clone(k.Naps), timer.Nap{Id: 7, Wake: 50}) },
		"none's, no tasks":        func(k *Kern) { *k = Kern{M: k.M, Cur: -1, Slice: 1, Q: pool(1)} },
		"none sleeps, no tasks":   func(k *Kern) { *k = Kern{M: k.M, Cur: -1, Slice: 1, Naps: []timer.Nap{{}}} },
		"the last one gone":       func(k *Kern) { k.Tasks = k.Tasks[:5] },
		"tasks gone":              func(k *Kern) { k.Tasks = nil; k.Cur = -1 },
		"nothing":                 func(k *Kern) { *k = Kern{} },
	}
}

// spoilt is a rich kernel that something was done with.
func spoilt(by func(k *Kern)) Kern {
	k := rich()
	by(&k)
	return k
}

// checkSane holds Sane against what is wanted, and what was handed in against what it was.
func checkSane(t *testing.T, what string, k Kern, want bool) {
	t.Helper()
	in := roomy(k)
	kept := whole(in)
	if got := Sane(in); got != want || modelSane(k) != want {
		t.Errorf("%s: Sane is %v, of the model %v, want %v: %s", what, got, modelSane(k), want, show(k))
	}
	if !same(whole(in), kept) {
		t.Errorf("%s: Sane changed what was handed in", what)
	}
}

func TestSane(t *testing.T) {
	for what, by := range edges() {
		checkSane(t, what, spoilt(by), true)
	}
	for what, by := range spoils() {
		checkSane(t, what, spoilt(by), false)
	}
}

// What may be at the edges goes on as any other kernel.
func TestStepAtEdges(t *testing.T) {
	for what, by := range edges() {
		for _, c := range someChoices() {
			got, _ := check(t, spoilt(by), c)
			if got.Slice != spoilt(by).Slice || len(got.Tasks) != len(spoilt(by).Tasks) {
				t.Errorf("%s: another kernel was taken: %s", what, show(got))
			}
		}
	}
}

// Of what may not be each call takes a kernel without tasks.
func TestInsane(t *testing.T) {
	for what, by := range spoils() {
		t.Run(what, func(t *testing.T) {
			k := spoilt(by)
			empty := Kern{P: k.P, M: make([]byte, 5120), Cur: -1, Slice: 1}
			for _, c := range someChoices() {
				want := empty
				if c.Tick {
					want.Tick = 1
				}
				tells(t, k, c, want, -1)
			}
			for n := range 4 {
				want := empty
				want.Tick = n
				if got := checkRun(t, k, slices.Repeat(many(bothOf(1)), n)); !same(got, want) {
					t.Errorf("run: got %s", show(got))
				}
			}
			checkOver(t, k, true)
		})
	}
}

// P18.2, each number of each field of each task, in all states: it may be or may not.
func TestSaneNumbers(t *testing.T) {
	numbers := []int{least, -lateTick, -2, -1, 0, 1, 2, 3, 4, 5, 7, 8, 9, 10, 11, 12, 999, 1000, 1001, lastTurn - 1, lastTurn, lastTurn + 1, lateTick - 1, lateTick, lateTick + 1, 1 << 50, 1<<50 + 1, greatest}
	good := 0
	for _, n := range numbers {
		for id := range 7 {
			for f := range 6 {
				k := rich()
				x := &k.Tasks[id]
				*[]*int{&x.Prio, &x.State, &x.Left, &x.Code, &x.Steps, &x.T.H}[f] = n
				checkSane(t, fmt.Sprint("task ", id, ", field ", f, ": ", n), k, modelSane(k))
			}
		}
		for f := range 11 {
			k := rich()
			*[]*int{&k.Tick, &k.Cur, &k.Slice, &k.Q.Next, &k.Q.L[0].Id, &k.Q.L[0].Prio, &k.Q.L[0].Turn, &k.Q.L[1].Id, &k.Naps[0].Id, &k.Naps[0].Wake, &k.Naps[1].Id}[f] = n
			checkSane(t, fmt.Sprint("field ", f, ": ", n), k, modelSane(k))
			if modelSane(k) {
				good++
			}
		}
	}
	if good < 20 {
		t.Error("hardly one may be:", good)
	}
}

// P18.2: every way in which two tasks may be, or not, in each of the places: in the queue, as Cur, asleep.
func TestSanePlaces(t *testing.T) {
	good := 0
	for mask := range 3 * 3 * 16 * 4 {
		k := Kern{M: bases(), Cur: mask/144 - 1, Slice: 2, Q: queue.Queue{Next: 9}}
		for id := range 2 {
			k.Tasks = append(k.Tasks, Task{State: mask / (1 + 2*id) % 3, Prio: 1, Left: 1})
			if mask/9>>id&1 == 1 {
				k.Q.L = append(k.Q.L, queue.Item{Id: id, Prio: 1, Turn: id})
			}
			if mask/9>>id&4 == 4 {
				k.Naps = append(k.Naps, timer.Nap{Id: id, Wake: 5})
			}
		}
		checkSane(t, fmt.Sprint(mask), k, modelSane(k))
		if modelSane(k) {
			good++
		}
	}
	// Nine pairs of states while none is Cur; while one is, it is Ready, and the other one of three states.
	if want := 9 + 3 + 3; good != want {
		t.Error("got", good, "want", want)
	}
}
