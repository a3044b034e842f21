package kern

import (
	"bytes"
	"slices"
	"testing"

	"tenterhook/api"
	"tenterhook/dict"
	"tenterhook/queue"
	"tenterhook/ret"
	"tenterhook/step"
	"tenterhook/timer"
)

// P18.3

// running is a kernel in which task 2 runs a thread, and nobody else is ready: its stack, and how many steps are left.
func running(th, left int, d ...int) Kern {
	k := rich()
	k.Tasks[0].State, k.Tasks[4].State = Done, Done
	k.Tasks[3].State = Done
	k.Tasks[2] = Task{T: ret.Task{D: d, R: []int{-2}, P: place(th, 0)}, Out: "o", Prio: 3, Left: left, Code: 4, Steps: 6}
	k.Q.L, k.Cur = nil, 2
	return k
}

// queued is running with these ids of the queue, all of one priority.
func queued(th, left, prio int, ids ...int) Kern {
	k := running(th, left)
	for _, id := range ids {
		k.Tasks[id].State, k.Tasks[id].Prio = Ready, prio
		k.Q.L = append(k.Q.L, queue.Item{Id: id, Prio: prio, Turn: len(k.Q.L)})
	}
	return k
}

// then is a kernel of which a part is another one; the tasks may be changed in place.
func then(k Kern, by func(k *Kern)) Kern {
	k.Tasks, k.M = slices.Clone(k.Tasks), slices.Clone(k.M)
	by(&k)
	return k
}

// stepped is then, with one step more of task 2, at a place.
func stepped(k Kern, th, at int, by func(k *Kern, x *Task)) Kern {
	return then(k, func(k *Kern) {
		x := &k.Tasks[2]
		x.T.P, x.Steps = place(th, at), x.Steps+1
		by(k, x)
	})
}

func TestStepOfNone(t *testing.T) {
	for _, k := range []Kern{fresh(3), fresh(3, Spec{At: -1}, Spec{At: greatest}), spoilt(edges()["all done"])} {
		for _, c := range someChoices() {
			want := k
			if c.Tick {
				want.Tick++
			}
			tells(t, k, c, want, -1)
		}
	}
}

// With none in the queue time goes on, till one wakes.
func TestStepOfSleepers(t *testing.T) {
	k := running(thOn, 3)
	k.Tasks[2].State, k.Cur = Done, -1
	tells(t, k, none(), k, -1)
	tells(t, k, preempts(1), k, -1)
	tells(t, k, bothOf(1), then(k, func(k *Kern) { k.Tick = 26 }), -1)
	k.Tick = 26
	want := then(k, func(k *Kern) {
		k.Tick = 27
		k.Tasks[5].State = Ready
		k.Q = queue.Queue{Next: 21, L: []queue.Item{{Id: 5, Turn: 20}}}
		k.Naps = k.Naps[1:]
	})
	tells(t, k, ticks(), want, -1)
	// Who wakes does not run in the same step, and so nobody is preempted.
	tells(t, k, bothOf(0), want, -1)
	_, by := check(t, want, none())
	if by != 5 {
		t.Error(by)
	}
}

func TestTakenFromQueue(t *testing.T) {
	k := rich()
	k.Tasks[3].State, k.Cur = Done, -1
	k.Tasks[4].T.P, k.Tasks[4].Left = place(thOn, 0), 2
	want := then(k, func(k *Kern) {
		k.Cur = 4
		k.Q.L = k.Q.L[1:]
		x := &k.Tasks[4]
		x.T.D, x.T.P, x.Steps = []int{1}, place(thOn, 1), 2
		// It is a whole slice that one step is taken of.
		x.Left = 9
	})
	tells(t, k, none(), want, 4)
	k.Slice = 1
	setLeft(&k, 1)
	want = then(want, func(k *Kern) {
		k.Cur, k.Slice = -1, 1
		k.Q = queue.Queue{Next: 21, L: []queue.Item{{Id: 4, Prio: 4, Turn: 20}, {Id: 0, Prio: 2, Turn: 3}}}
		setLeft(k, 1)
	})
	tells(t, k, none(), want, 4)
}

func TestGoes(t *testing.T) {
	for _, left := range []int{10, 9, 3, 2} {
		k := running(thOn, left, 8)
		tells(t, k, none(), stepped(k, thOn, 1, func(k *Kern, x *Task) { x.T.D, x.Left = []int{8, 1}, left-1 }), 2)
		tells(t, k, onlyN(3), stepped(k, thOn, 1, func(k *Kern, x *Task) { x.T.D, x.Left = []int{8, 1}, left-1 }), 2)
	}
	// Who runs is not taken from the queue anew, whoever waits there.
	k := queued(thOn, 2, 4, 0, 6)
	tells(t, k, none(), stepped(k, thOn, 1, func(k *Kern, x *Task) { x.T.D, x.Left = []int{1}, 1 }), 2)
}

// back is with task 2 behind all of the queue, whose priority is as high or higher.
func back(k *Kern) {
	k.Cur = -1
	k.Q = queue.Queue{Next: k.Q.Next + 1, L: append(slices.Clone(k.Q.L), queue.Item{Id: 2, Prio: 3, Turn: k.Q.Next})}
}

func TestSliceRunsOut(t *testing.T) {
	for _, k := range []Kern{running(thOn, 1), queued(thOn, 1, 3, 0), queued(thOn, 1, 3, 0, 6, 4), queued(thOn, 1, 4, 3, 4)} {
		want := stepped(k, thOn, 1, func(k *Kern, x *Task) {
			x.T.D, x.Left = []int{1}, 10
			back(k)
		})
		tells(t, k, none(), want, 2)
		// There is nobody to be preempted then.
		tells(t, k, preempts(0), want, 2)
		tells(t, k, preempts(1), want, 2)
		tells(t, k, bothOf(1), then(want, func(k *Kern) { k.Tick = 26 }), 2)
	}
	// Ahead of those of lower priorities it is again.
	k := queued(thOn, 1, 2, 0, 6)
	_, by := ran(t, k, 3, none())
	if !slices.Equal(by, []int{2, 2, 2}) {
		t.Error(by)
	}
}

func TestPaused(t *testing.T) {
	for _, left := range []int{10, 5, 1} {
		for _, k := range []Kern{running(thTurns, left), queued(thTurns, left, 3, 0), queued(thTurns, left, 4, 0, 6, 4)} {
			want := stepped(k, thTurns, 1, func(k *Kern, x *Task) {
				x.Left = 10
				back(k)
			})
			tells(t, k, none(), want, 2)
			tells(t, k, preempts(1), want, 2)
		}
	}
}

func TestSleeps(t *testing.T) {
	for _, x := range []struct{ n, sleeps int }{{least, 1}, {-5, 1}, {-1, 1}, {0, 1}, {1, 1}, {2, 2}, {3, 3}, {1<<30 - 1, 1<<30 - 1}, {1 << 30, 1 << 30}, {1<<30 + 1, 1 << 30}, {1 << 40, 1 << 30}, {greatest, 1 << 30}} {
		for _, tick := range []int{0, 1, 25, lateTick - 1, lateTick} {
			for _, left := range []int{10, 1} {
				k := running(thTired, left, 7, x.n)
				k.Tick, k.Naps = tick, nil
				k.Tasks[1].State, k.Tasks[5].State = Done, Done
				want := stepped(k, thTired, 1, func(k *Kern, y *Task) {
					y.T.D, y.State, y.Left = []int{7}, Asleep, 10
					k.Naps, k.Cur = []timer.Nap{{Id: 2, Wake: tick + x.sleeps}}, -1
				})
				tells(t, k, none(), want, 2)
				tells(t, k, preempts(0), want, 2)
			}
		}
	}
}

// Who falls asleep lies behind those who wake no later.
func TestSleepsAmongOthers(t *testing.T) {
	for _, x := range []struct {
		n    int
		want []timer.Nap
	}{
		{1, []timer.Nap{{Id: 2, Wake: 26}, {Id: 5, Wake: 27}, {Id: 1, Wake: 30}}}, {2, []timer.Nap{{Id: 5, Wake: 27}, {Id: 2, Wake: 27}, {Id: 1, Wake: 30}}},
		{4, []timer.Nap{{Id: 5, Wake: 27}, {Id: 2, Wake: 29}, {Id: 1, Wake: 30}}}, {5, []timer.Nap{{Id: 5, Wake: 27}, {Id: 1, Wake: 30}, {Id: 2, Wake: 30}}}, {9, []timer.Nap{{Id: 5, Wake: 27}, {Id: 1, Wake: 30}, {Id: 2, Wake: 34}}},
	} {
		k := running(thTired, 3, x.n)
		tells(t, k, none(), stepped(k, thTired, 1, func(k *Kern, y *Task) {
			y.T.D, y.State, y.Left = nil, Asleep, 10
			k.Naps, k.Cur = x.want, -1
		}), 2)
	}
}

// How many steps were left, and which code there was, stays with one that ends.
func TestEnded(t *testing.T) {
	for _, left := range []int{10, 4, 1} {
		k := running(thBye, left)
		k.Tasks[2].T.P.At = 1
		tells(t, k, none(), stepped(k, thBye, 2, func(k *Kern, x *Task) { x.State, k.Cur = Done, -1 }), 2)
		k = queued(thTurns, left, 4, 0, 6)
		k.Tasks[2].T.P.At = 2
		// EXIT takes Root from the return stack.
		tells(t, k, none(), stepped(k, thTurns, 3, func(k *Kern, x *Task) { x.T.R, x.State, k.Cur = nil, Done, -1 }), 2)
		tells(t, k, preempts(1), stepped(k, thTurns, 3, func(k *Kern, x *Task) { x.T.R, x.State, k.Cur = nil, Done, -1 }), 2)
	}
}

func TestDied(t *testing.T) {
	for _, x := range []struct {
		th, at, code int
		d            []int
	}{
		{thUnder, 0, -4, nil}, {thZero, 2, -10, []int{1, 0}}, {thThrow, 1, 7, []int{7}}, {thThrow, 1, -1, []int{-1}}, {thThrow, 1, least, []int{least}}, {thThrow, 1, greatest, []int{greatest}},
		{thStray, 2, -9, []int{1, 4096}}, {thEnd, 1, -9, nil}, {thCount, 0, -9, nil}, {1000000, 4094, -9, nil}, {thHere, 1, -21, []int{5}}, {thTired, 0, -4, nil}, {thNote, 0, -4, []int{1, 2}},
	} {
		for _, left := range []int{10, 4, 1} {
			k := running(x.th, left, x.d...)
			k.Tasks[2].T.P.At = x.at
			// A place where nothing stands is not gone beyond.
			on := x.at + 1
			if x.th == thEnd || x.th >= thCount {
				on = x.at
			}
			want := stepped(k, x.th, on, func(k *Kern, y *Task) { y.State, y.Code, k.Cur = Done, x.code, -1 })
			tells(t, k, none(), want, 2)
			tells(t, k, preempts(0), want, 2)
		}
	}
}

// What is asked for is thrown at who asks: the cells that it would need stay.
func TestAsks(t *testing.T) {
	for _, name := range []string{"CREATE", "(DOES)", "HERE", "ALLOT", ",", "COMPILE,", "IMMEDIATE"} {
		k := running(thOn, 5, 8, 9)
		k.P = step.Prog{Threads: [][]api.Ins{{ins(name, 3)}}}
		k.Tasks[2].T.P = place(0, 0)
		tells(t, k, none(), stepped(k, 0, 1, func(k *Kern, x *Task) { x.State, x.Code, k.Cur = Done, -21, -1 }), 2)
		// The throw is caught: it goes on, with a step less to do.
		k.Tasks[2].T.R, k.Tasks[2].T.H = []int{-2, 0, 1, number(thOn, 2), -1}, 4
		for _, left := range []int{10, 2} {
			k.Tasks[2].Left = left
			tells(t, k, none(), stepped(k, thOn, 2, func(k *Kern, x *Task) {
				x.T.D, x.T.R, x.T.H, x.Left = []int{8, -21}, []int{-2}, 0, left-1
			}), 2)
		}
		k.Tasks[2].Left = 1
		tells(t, k, none(), stepped(k, thOn, 2, func(k *Kern, x *Task) {
			x.T.D, x.T.R, x.T.H, x.Left = []int{8, -21}, []int{-2}, 0, 10
			back(k)
		}), 2)
		// It is not caught within the library.
		k.P.Lib = thOn + 1
		tells(t, k, none(), stepped(k, 0, 1, func(k *Kern, x *Task) { x.State, x.Code, k.Cur = Done, -21, -1 }), 2)
	}
}

func TestAsksAndCatches(t *testing.T) {
	k := takes(t, fresh(9, all(thHeld)...), none(), 0, 0, 0, 0, 0, 0, -1)
	if x := k.Tasks[0]; x.State != Done || x.Code != 0 || !slices.Equal(x.T.D, []int{-21, 8}) || x.Steps != 6 || x.Left != 4 {
		t.Errorf("%+v", x)
	}
}

func TestStepsAreCounted(t *testing.T) {
	for _, x := range []struct{ steps, want int }{{0, 1}, {1, 2}, {lateTick - 2, lateTick - 1}, {lateTick - 1, lateTick}, {lateTick, lateTick}} {
		for _, th := range []int{thOn, thTurns, thNap, thUnder, thEnd} {
			k := running(th, 5)
			k.Tasks[2].Steps = x.steps
			if got, by := check(t, k, ticks()); got.Tasks[2].Steps != x.want || by != 2 || got.Tasks[0].Steps != 5 {
				t.Error(x, th, got.Tasks[2].Steps, by)
			}
		}
	}
}

// What a task knows: its number, the tick, its area, what it told, what was noted.
func TestWhoItIs(t *testing.T) {
	k := fresh(30, all(thOwn, thOwn, thOwn, thOwn, thOwn, thOwn, thOwn)...)
	k, _ = ran(t, k, 100, none())
	for id, x := range k.Tasks {
		if x.Out != string(rune('0'+id))+" " || !slices.Equal(x.T.D, []int{id}) || k.M[4096+128*id+64] != byte(id) || x.State != Done || x.Code != 0 {
			t.Errorf("%d: %+v", id, x)
		}
	}
	k = running(thNap, 5)
	k.Tasks[2].T.P.At = 2
	for _, tick := range []int{0, 25, lateTick - 1, lateTick} {
		k.Tick, k.Naps = tick, []timer.Nap{{Id: 5, Wake: 1 << 50}, {Id: 1, Wake: 1 << 50}}
		// It knows the tick ahead of the one that comes behind the step.
		if got, _ := check(t, k, ticks()); !slices.Equal(got.Tasks[2].T.D, []int{tick}) {
			t.Error(tick, got.Tasks[2].T.D)
		}
	}
	k = fresh(9, all(thTell, thNotes, thNotes)...)
	k, _ = ran(t, k, 40, none())
	if want := []api.Event{{Task: 1, Kind: 9, At: 2048, Val: 1}, {Task: 2, Kind: 9, At: 2048, Val: 2}}; !slices.Equal(k.Hist, want) || k.Tasks[0].Out[:4] != "0 0 " {
		t.Error(k.Hist, k.Tasks[0].Out)
	}
}

func TestFullOfWords(t *testing.T) {
	for _, n := range []int{0, 1, 399, 400} {
		k := running(thNote, 5, 1, 2, 3)
		k.Hist = events(n)
		got, _ := check(t, k, none())
		if n == 400 {
			if got.Tasks[2].Code != -8 || !slices.Equal(got.Hist, events(400)) || got.Tasks[2].State != Done {
				t.Error(n, show(got))
			}
			continue
		}
		if want := append(events(n), api.Event{Task: 2, Kind: 3, At: 2, Val: 1}); !slices.Equal(got.Hist, want) || got.Tasks[2].State != Ready {
			t.Error(n, show(got))
		}
	}
	for _, n := range []int{0, 1, 997, 998, 999, 1000} {
		k := running(thTell, 5, 3)
		k.Tasks[2].T.P.At, k.Tasks[2].Out = 1, long(n)
		got, _ := check(t, k, none())
		x := got.Tasks[2]
		if n <= 998 && (x.Out != long(n)+"3 " || x.State != Ready) || n > 998 && (x.Out != long(n) || x.State != Done || x.Code != -8) {
			t.Error(n, len(x.Out), x.State, x.Code)
		}
	}
}

func TestTick(t *testing.T) {
	for _, tick := range []int{0, 1, 25, lateTick - 2, lateTick - 1, lateTick} {
		k := running(thOn, 5)
		k.Tick, k.Naps = tick, []timer.Nap{{Id: 5, Wake: 1 << 50}, {Id: 1, Wake: 1 << 50}}
		for _, c := range many(none(), ticks(), preempts(0), bothOf(0), onlyN(5)) {
			want := tick
			if c.Tick && tick < lateTick {
				want++
			}
			if got, by := check(t, k, c); got.Tick != want || by != 2 || len(got.Naps) != 2 {
				t.Error(tick, c, got.Tick, by)
			}
		}
	}
}

// wokenAt is a kernel with these naps, of tasks of the priority 3, in which task 2 runs.
func wokenAt(tick int, naps ...timer.Nap) Kern {
	k := running(thOn, 5)
	k.Tasks[1].State, k.Tasks[5].State, k.Tick, k.Naps = Done, Done, tick, naps
	for _, n := range naps {
		k.Tasks[n.Id].State, k.Tasks[n.Id].Prio, k.Tasks[n.Id].Left = Asleep, 3, 4
	}
	return k
}

func TestWakes(t *testing.T) {
	naps := []timer.Nap{{Id: 6, Wake: 0}, {Id: 1, Wake: 26}, {Id: 0, Wake: 26}, {Id: 5, Wake: 27}, {Id: 4, Wake: 1 << 50}}
	for _, x := range []struct{ tick, woken int }{{0, 1}, {1, 1}, {24, 1}, {25, 3}, {26, 4}, {27, 4}, {lateTick - 1, 4}} {
		k := wokenAt(x.tick, naps...)
		got, _ := check(t, k, ticks())
		// In the order in which they were due, each with the turn behind the last one's.
		var items []queue.Item
		for n, id := range []int{6, 1, 0, 5}[:x.woken] {
			items = append(items, queue.Item{Id: id, Prio: 3, Turn: 20 + n})
		}
		if !slices.Equal(got.Q.L, items) || got.Q.Next != 20+x.woken || !slices.Equal(got.Naps, naps[x.woken:]) || got.Tick != x.tick+1 || got.Cur != 2 {
			t.Error(x, show(got))
		}
		for n, id := range []int{6, 1, 0, 5, 4} {
			state := Asleep
			if n < x.woken {
				state = Ready
			}
			if got.Tasks[id].State != state || got.Tasks[id].Left != 4 {
				t.Error(x, id, got.Tasks[id])
			}
		}
		// Nobody wakes without a tick.
		if got, _ := check(t, k, preempts(0)); !slices.Equal(got.Naps, naps) {
			t.Error(x, show(got))
		}
	}
	// At the last tick of all there is none more, and nobody wakes, who is due or not.
	k := wokenAt(lateTick, naps...)
	if got, _ := check(t, k, ticks()); !slices.Equal(got.Naps, naps) || len(got.Q.L) != 0 || got.Tick != lateTick {
		t.Error(show(got))
	}
}

// Who falls asleep for one tick wakes at the tick of the same step, and is put back behind those who sleep longer.
func TestWakesAtOnce(t *testing.T) {
	k := running(thAgain, 5)
	k.Tasks[2].T.D, k.Tasks[2].T.P.At = []int{1}, 1
	want := stepped(k, thAgain, 2, func(k *Kern, x *Task) {
		x.T.D, x.Left, k.Tick = nil, 10, 26
		back(k)
	})
	tells(t, k, ticks(), want, 2)
	tells(t, k, bothOf(0), want, 2)
	k.Tasks[2].T.D = []int{2}
	want = stepped(k, thAgain, 2, func(k *Kern, x *Task) {
		x.T.D, x.Left, x.State = nil, 10, Asleep
		k.Tick, k.Cur, k.Naps = 26, -1, []timer.Nap{{Id: 5, Wake: 27}, {Id: 2, Wake: 27}, {Id: 1, Wake: 30}}
	})
	tells(t, k, ticks(), want, 2)
	// One whose slice runs out is put back ahead of those who wake then.
	k = wokenAt(25, timer.Nap{Id: 6, Wake: 26}, timer.Nap{Id: 0, Wake: 26})
	k.Tasks[2].Left = 1
	if got, _ := check(t, k, ticks()); !slices.Equal(queue.Ids(got.Q), []int{2, 6, 0}) {
		t.Error(show(got))
	}
	// One that is preempted is put back behind them.
	k.Tasks[2].Left = 5
	for n, id := range []int{6, 0, 2} {
		got, _ := check(t, k, bothOf(n))
		if ids := queue.Ids(got.Q); got.Cur != id || !slices.Equal(ids, slices.Delete([]int{6, 0, 2}, n, n+1)) || got.Q.Next != 23 {
			t.Error(n, show(got))
		}
	}
}

func TestPreempt(t *testing.T) {
	numbers := []int{least, least + 1, -8, -1, 0, 1, 2, 3, 4, 5, 6, 7, 8, 9, 63, 64, 1 << 40, greatest - 1, greatest}
	for _, ids := range [][]int{nil, {0}, {6, 0}, {4, 6, 3}, {3, 4, 6, 0}} {
		for _, n := range numbers {
			k := queued(thOn, 5, 3, ids...)
			setLeft(&k, 4)
			order := append(slices.Clone(ids), 2)
			at := max(n, 0) % len(order)
			cur := order[at]
			want := stepped(k, thOn, 1, func(k *Kern, x *Task) {
				x.T.D = []int{1}
				back(k)
				k.Q.L = slices.Delete(k.Q.L, at, at+1)
				k.Cur = cur
				// Both have a whole slice; all others what they had.
				x.Left = 10
				k.Tasks[cur].Left = 10
			})
			tells(t, k, preempts(n), want, 2)
		}
	}
}

// The place is one of the whole queue, whatever the priorities.
func TestPreemptOfSeveral(t *testing.T) {
	k := rich()
	// 4 has the priority 4, 0 and then 3 have 2.
	for _, x := range []struct {
		n, cur int
		left   []int
	}{{0, 4, []int{0, 3}}, {1, 0, []int{4, 3}}, {2, 3, []int{4, 0}}, {3, 4, []int{0, 3}}, {4, 0, []int{4, 3}}, {-1, 4, []int{0, 3}}, {greatest, 0, []int{4, 3}}, {least, 4, []int{0, 3}}} {
		for _, c := range many(preempts(x.n), bothOf(x.n)) {
			got, by := check(t, k, c)
			if by != 3 || got.Cur != x.cur || !slices.Equal(queue.Ids(got.Q), x.left) || got.Tasks[3].Left != 10 || got.Tasks[x.cur].Left != 10 || got.Q.Next != 21 {
				t.Error(c, by, show(got))
			}
		}
	}
	// Ahead of one of a lower priority who is preempted stands itself.
	k = queued(thOn, 5, 1, 0)
	got, _ := check(t, k, preempts(0))
	if got.Cur != 2 || !slices.Equal(queue.Ids(got.Q), []int{0}) {
		t.Error(show(got))
	}
}

// Who was chosen makes the next step, though one of a higher priority waits.
func TestChosenRuns(t *testing.T) {
	k := queued(thOn, 5, 4, 4)
	k.Tasks[4].T.P = place(thOn, 0)
	k, _ = check(t, k, preempts(1))
	k = takes(t, k, none(), 2, 2, 2, 2, 2, 2, 2, 2, 2, 2, 4, 4, 4)
	if k.Cur != 4 {
		t.Error(show(k))
	}
}

// The next turn goes up to 2^39, and a kernel whose next turn is beyond is none that may be.
func TestLastTurn(t *testing.T) {
	k := fresh(2, all(thPauses, thPauses)...)
	k.Q.Next = lastTurn
	got, by := check(t, k, none())
	if by != 0 || got.Q.Next != lastTurn+1 || Sane(got) || len(got.Tasks) != 2 || !slices.Equal(got.Q.L, []queue.Item{{Id: 1, Turn: 1}, {Turn: lastTurn}}) {
		t.Error(by, show(got))
	}
	got, by = check(t, got, ticks())
	if by != -1 || len(got.Tasks) != 0 || got.Tick != 1 || got.Slice != 1 || got.Q.Next != 0 {
		t.Error(by, show(got))
	}
	// As far as nobody is put back it goes on.
	k = fresh(9, all(thOn, thOn)...)
	k.Q.Next = lastTurn
	takes(t, k, none(), 0, 0, 0, 0, 0, 0, 0, 0)
	// Several are put back by one step.
	k = wokenAt(25, timer.Nap{Id: 6, Wake: 26}, timer.Nap{Id: 0, Wake: 26})
	k.Q.Next = lastTurn
	if got, _ := check(t, k, bothOf(1)); got.Q.Next != lastTurn+3 || got.Cur != 0 {
		t.Error(show(got))
	}
}

// Each task may be Cur.
func TestEachMayRun(t *testing.T) {
	for cur := range 7 {
		k := fresh(5, all(thOn, thOn, thOn, thOn, thOn, thOn, thOn)...)
		k.Cur = cur
		k.Q.L = slices.Delete(k.Q.L, cur, cur+1)
		got, by := check(t, k, none())
		if by != cur || got.Cur != cur || got.Tasks[cur].Steps != 1 || got.Tasks[cur].Left != 4 {
			t.Error(cur, by, show(got))
		}
	}
}

// What belongs to the kernel as a whole is kept by a step.
func TestKept(t *testing.T) {
	for _, c := range someChoices() {
		k := rich()
		k.P.Words = append(k.P.Words, dict.Entry{Name: "small"})
		got, _ := check(t, k, c)
		if !sameProg(got.P, k.P) || got.Slice != 10 || !slices.Equal(got.Hist, k.Hist) || !bytes.Equal(got.M, k.M) {
			t.Error(c, show(got))
		}
		for _, id := range []int{1, 2, 5, 6} {
			if !sameTask(got.Tasks[id], k.Tasks[id]) {
				t.Error(c, id, got.Tasks[id])
			}
		}
	}
}
