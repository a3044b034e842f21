package kern

import (
	"slices"

	"tenterhook/api"
	"tenterhook/ret"
)

// counts are in how many places a task is met: in the queue or running, and among those that sleep.
type counts struct{ ready, asleep int }

// maySize: may a kernel's lists be so long, and its numbers so great?
func maySize(k Kern) bool {
	return len(k.M) == api.MemSize && len(k.Tasks) <= mostTasks && len(k.Hist) <= api.MaxHist &&
		within(k.Tick, 0, api.TickMost) && within(k.Slice, 1, mostSlice)
}

// mayRun: is Cur a task's number, or nobody's? That it is Ready the counts tell.
func mayRun(k Kern) bool { return within(k.Cur, nobody, len(k.Tasks)-1) }

// mayEach: may each task be, wherever it is?
func mayEach(k Kern) bool {
	return !slices.ContainsFunc(k.Tasks, func(t Task) bool { return !mayTask(t, k.Slice) })
}

// mayTask: may a task be, where slices are of so many steps?
func mayTask(t Task, slice int) bool {
	return ret.Sane(t.T) && within(t.Prio, 0, api.MaxPrio) && within(t.State, Ready, Done) &&
		within(t.Left, 1, slice) && within(t.Steps, 0, api.TickMost) && len(t.Out) <= api.MaxOut
}

// keepPrio: does each one in the queue, which may be, wait with its task's priority?
func keepPrio(k Kern) bool {
	for _, i := range k.Q.L {
		if i.Id >= len(k.Tasks) || i.Prio != k.Tasks[i.Id].Prio {
			return false
		}
	}
	return true
}

// met is where each number is, of a kernel whose queue, naps and Cur may be: no number of theirs is beyond the array.
func met(k Kern) [api.MaxTasks]counts {
	var at [api.MaxTasks]counts
	for _, i := range k.Q.L {
		at[i.Id].ready++
	}
	for _, n := range k.Naps {
		at[n.Id].asleep++
	}
	if k.Cur != nobody {
		at[k.Cur].ready++
	}
	return at
}

// wanted is where each number has to be, by what the tasks' states say: that of no task nowhere.
func wanted(l []Task) [api.MaxTasks]counts {
	var at [api.MaxTasks]counts
	for id, t := range l {
		switch t.State {
		case Ready:
			at[id].ready = 1
		case Asleep:
			at[id].asleep = 1
		}
	}
	return at
}

// within: is n not beyond these two?
func within(n, least, most int) bool { return least <= n && n <= most }
