package hist

import (
	"math"

	"tenterhook/api"
)

// Holders is how many tasks hold the lock at a place at most, and whether tickets come in order, and only who holds it releases it. It counts on where that is not so.
func Holders(h []api.Event, at int) (int, bool) {
	most, ticket, ok := 0, 0, true
	holds := map[int]struct{}{}
	for _, e := range h {
		if e.At != at {
			continue
		}
		r := look(e)
		switch {
		case r.calls(Acq): // then it is this one that is a task's last, and it has not returned
			delete(holds, e.Task)
		case r.returns(Acq):
			holds[e.Task] = struct{}{}
			ok = ok && e.Val == ticket
			ticket++
		case r.calls(Rel):
			_, held := holds[e.Task]
			ok = ok && held
			delete(holds, e.Task)
		}
		most = max(most, len(holds))
	}
	return most, ok
}

// Signals is how many signals the event at a place has at least, from n on, and whether that is never below 0.
func Signals(h []api.Event, at, n int) (int, bool) {
	now, most := 0, 0 // how many fewer than n there are, and were at most
	for _, e := range h {
		if e.At != at {
			continue
		}
		r := look(e)
		switch {
		case r.calls(Signal):
			now--
		case r.returns(Wait):
			now++
		}
		most = max(most, now)
	}
	if n < math.MinInt+most { // no cell is so low
		return math.MinInt, false
	}
	return n - most, n >= most
}
