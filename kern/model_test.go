package kern

import (
	"slices"

	"tenterhook/api"
	"tenterhook/queue"
	"tenterhook/ret"
	"tenterhook/step"
	"tenterhook/timer"
)

// waiter is a task of the model, which knows itself how it waits: by its turn while it is ready, by its wake while it sleeps, and by who began to sleep first.
type waiter struct {
	Task
	turn, wake, nap int
}

// model is a kernel as the document tells it, in which no list is in an order, and each who comes first is looked for when it is asked.
type model struct {
	p                           step.Prog
	m                           []byte
	hist                        []api.Event
	tasks                       []waiter
	next, naps, tick, cur, slow int
}

// modelSane is P18.2, said once more.
func modelSane(k Kern) bool {
	ok := len(k.M) == 5120 && len(k.Tasks) < 8 && 0 <= k.Tick && k.Tick <= lateTick && 0 < k.Slice && k.Slice < 1001 && len(k.Hist) < 401
	ok = ok && queue.Sane(k.Q) && k.Q.Next <= lastTurn && timer.Sane(k.Naps)
	ok = ok && k.Cur >= -1 && k.Cur < len(k.Tasks) && (k.Cur == -1 || k.Tasks[k.Cur].State == 0)
	for id, x := range k.Tasks {
		ok = ok && ret.Sane(x.T) && x.Prio >= 0 && x.Prio < 5 && x.State >= 0 && x.State < 3 && x.Left > 0 && x.Left <= k.Slice && x.Steps >= 0 && x.Steps <= lateTick && len(x.Out) < 1001
		waits := slices.ContainsFunc(k.Q.L, func(i queue.Item) bool { return i.Id == id && i.Prio == x.Prio })
		sleeps := slices.ContainsFunc(k.Naps, func(n timer.Nap) bool { return n.Id == id })
		ok = ok && (x.State != 0 || waits != (k.Cur == id)) && sleeps == (x.State == 1)
	}
	for _, i := range k.Q.L {
		ok = ok && i.Id < len(k.Tasks) && k.Tasks[i.Id].State == 0 && k.Cur != i.Id
	}
	for _, n := range k.Naps {
		ok = ok && n.Id < len(k.Tasks)
	}
	return ok
}

// modelNew is P18.1.
func modelNew(p step.Prog, m []byte, l []Spec, slice int) Kern {
	v := &model{p: p, m: make([]byte, 5120), cur: -1, slow: slice}
	if len(m) == 5120 {
		copy(v.m, m)
	}
	if slice < 1 {
		v.slow = 1
	} else if slice > 1000 {
		v.slow = 1000
	}
	for id, s := range l {
		if id == 7 {
			break
		}
		x := waiter{Task: Task{Prio: s.Prio, Left: v.slow, T: ret.Task{R: []int{-2}}}}
		if s.Prio < 0 {
			x.Prio = 0
		} else if s.Prio > 4 {
			x.Prio = 4
		}
		v.tasks = append(v.tasks, x)
		if s.At >= 0 && s.At <= lastPlace {
			v.tasks[id].T.P = place(s.At/4096, s.At%4096)
			v.wait(id)
			continue
		}
		v.tasks[id].State, v.tasks[id].Code = 2, -9
	}
	return v.kern()
}

// modelOf is the model of a kernel.
func modelOf(k Kern) *model {
	if !modelSane(k) {
		k = modelNew(k.P, nil, nil, 1)
	}
	v := &model{p: k.P, m: k.M, hist: k.Hist, next: k.Q.Next, naps: len(k.Naps), tick: k.Tick, cur: k.Cur, slow: k.Slice}
	for _, x := range k.Tasks {
		v.tasks = append(v.tasks, waiter{Task: x})
	}
	for _, i := range k.Q.L {
		v.tasks[i.Id].turn = i.Turn
	}
	for n, x := range k.Naps {
		v.tasks[x.Id].wake, v.tasks[x.Id].nap = x.Wake, n
	}
	return v
}

// kern is the model as a kernel.
func (v *model) kern() Kern {
	k := Kern{P: v.p, M: v.m, Hist: v.hist, Tick: v.tick, Cur: v.cur, Slice: v.slow, Q: queue.Queue{Next: v.next}}
	for _, x := range v.tasks {
		k.Tasks = append(k.Tasks, x.Task)
	}
	for _, id := range v.waiting() {
		k.Q.L = append(k.Q.L, queue.Item{Id: id, Prio: v.tasks[id].Prio, Turn: v.tasks[id].turn})
	}
	for _, id := range v.sleeping(greatest) {
		k.Naps = append(k.Naps, timer.Nap{Id: id, Wake: v.tasks[id].wake})
	}
	return k
}

// waiting are those that are ready, and do not run, in turn.
func (v *model) waiting() []int {
	return v.those(func(id int) bool { return v.tasks[id].State == 0 && id != v.cur }, func(a, b waiter) bool {
		return a.Prio > b.Prio || a.Prio == b.Prio && a.turn < b.turn
	})
}

// sleeping are those that sleep till a tick at most, the first one first.
func (v *model) sleeping(till int) []int {
	return v.those(func(id int) bool { return v.tasks[id].State == 1 && v.tasks[id].wake <= till }, func(a, b waiter) bool {
		return a.wake < b.wake || a.wake == b.wake && a.nap < b.nap
	})
}

// those are the tasks of a kind, each behind all that come ahead of it.
func (v *model) those(is func(id int) bool, ahead func(a, b waiter) bool) []int {
	var out []int
	for id := range v.tasks {
		if !is(id) {
			continue
		}
		n := 0
		for _, o := range out {
			if !ahead(v.tasks[id], v.tasks[o]) {
				n++
			}
		}
		out = slices.Insert(out, n, id)
	}
	return out
}

// wait is the next turn for a task.
func (v *model) wait(id int) {
	v.tasks[id].State, v.tasks[id].turn = 0, v.next
	v.next++
}

// run makes the one at a place of those that wait Cur.
func (v *model) run(n int) {
	if l := v.waiting(); len(l) > 0 {
		v.cur = l[max(n, 0)%len(l)]
		v.tasks[v.cur].Left = v.slow
	}
}

// modelStep is P18.3.
func modelStep(k Kern, c Choice) (Kern, int) {
	v := modelOf(k)
	if v.cur < 0 {
		v.run(0)
	}
	by := v.cur
	if by >= 0 {
		v.act()
	}
	if c.Tick && v.tick < lateTick {
		v.tick++
		for _, id := range v.sleeping(v.tick) {
			v.wait(id)
		}
	}
	if c.Preempt && v.cur >= 0 {
		was := v.cur
		v.tasks[was].Left = v.slow
		v.cur = -1
		v.wait(was)
		v.run(c.N)
	}
	return v.kern(), by
}

// act is a step of Cur.
func (v *model) act() {
	id := v.cur
	x := &v.tasks[id]
	s, r := step.Step(v.p, step.State{T: x.T, M: v.m, Out: x.Out, Me: id, Tick: v.tick, Hist: v.hist})
	if r.Kind == 5 {
		s, r = step.Throw(v.p, s, -21)
	}
	x.T, v.m, x.Out, v.hist = s.T, s.M, s.Out, s.Hist
	if x.Steps < lateTick {
		x.Steps++
	}
	v.cur = -1
	switch r.Kind {
	case 0:
		x.Left--
		if x.Left > 0 {
			v.cur = id
			return
		}
		x.Left = v.slow
		v.wait(id)
	case 1:
		x.State = 2
	case 2:
		x.State, x.Code = 2, r.N
	case 3:
		x.Left = v.slow
		v.wait(id)
	case 4:
		x.State, x.Left, x.wake, x.nap = 1, v.slow, v.tick+r.N, v.naps
		v.naps++
	}
}
