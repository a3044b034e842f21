package hist

import (
	"math/big"
	"slices"
	"testing"

	"tenterhook/api"
)

// called is the operation that a kind calls, backOf the one that it is a return of; -1: none.
func called(kind int) int { return slices.Index([]int{1, 3, 6, 8, 11, 13, 15, 17}, kind) }

func backOf(kind int) int {
	switch kind {
	case 2:
		return Push
	case 4, 5:
		return Pop
	case 7:
		return Enq
	case 9, 10:
		return Deq
	case 12:
		return Acq
	case 14:
		return Rel
	case 16:
		return Wait
	case 18:
		return Signal
	}
	return -1
}

// model is what the document tells, looked for event by event.
func model(h []api.Event, at, n int) told {
	var out told
	out.ops, out.isOps = modelOps(h, at)
	out.most, out.isLock = modelHolders(h, at)
	out.signals, out.isEvent = modelSignals(h, at, n)
	for task := range 8 {
		last := -1
		for _, e := range h {
			if e.Task == task {
				last = called(e.Kind)
			}
		}
		out.pending = append(out.pending, last == Push || last == Pop || last == Enq || last == Deq)
	}
	for _, e := range h {
		if x := backOf(e.Kind); x >= 0 && x < 4 {
			out.returns++
		}
	}
	return out
}

// modelReturn is the place of the return of the call at k, -1 if it has none.
func modelReturn(h []api.Event, k int) int {
	for j := k + 1; j < len(h); j++ {
		if h[j].Task == h[k].Task && called(h[j].Kind) >= 0 {
			return -1
		}
		if h[j].Task == h[k].Task && h[j].At == h[k].At {
			return j
		}
	}
	return -1
}

func modelOps(h []api.Event, at int) ([]Op, bool) {
	var l []Op
	var told []int
	for k, e := range h {
		if e.At != at || called(e.Kind) < 0 {
			continue
		}
		o := Op{Task: e.Task, Kind: called(e.Kind), Arg: e.Val, From: k, To: modelReturn(h, k)}
		if o.To >= 0 {
			told = append(told, o.To)
			u := h[o.To]
			if backOf(u.Kind) != o.Kind {
				return nil, false
			}
			o.Ok = u.Kind != 5 && u.Kind != 10 && (u.Kind != 2 && u.Kind != 7 || u.Val != 0)
			if u.Kind == 4 || u.Kind == 9 || u.Kind == 12 {
				o.Res = u.Val
			}
		}
		l = append(l, o)
	}
	for k, e := range h {
		if e.At == at && called(e.Kind) < 0 && !slices.Contains(told, k) {
			return nil, false
		}
	}
	return l, true
}

// modelHolds tells whether a task holds the lock behind these events: it goes back to its last call, or return, of Acq, or call of Rel.
func modelHolds(h []api.Event, at, task int) bool {
	for k := len(h) - 1; k >= 0; k-- {
		if e := h[k]; e.At == at && e.Task == task && e.Kind >= 11 && e.Kind <= 13 {
			return e.Kind == 12
		}
	}
	return false
}

func modelHolders(h []api.Event, at int) (int, bool) {
	var tasks, tickets []int
	for _, e := range h {
		if !slices.Contains(tasks, e.Task) {
			tasks = append(tasks, e.Task)
		}
	}
	most, ok := 0, true
	for k, e := range h {
		many := 0
		for _, task := range tasks {
			if modelHolds(h[:k+1], at, task) {
				many++
			}
		}
		most = max(most, many)
		if e.At == at && e.Kind == 12 {
			tickets = append(tickets, e.Val)
		}
		if e.At == at && e.Kind == 13 && !modelHolds(h[:k], at, e.Task) {
			ok = false
		}
	}
	for k, x := range tickets {
		ok = ok && x == k
	}
	return most, ok
}

// modelSignals counts in whole numbers; one that is no cell is told as the lowest one.
func modelSignals(h []api.Event, at, n int) (int, bool) {
	now := big.NewInt(int64(n))
	low := new(big.Int).Set(now)
	for _, e := range h {
		if e.At == at && e.Kind == 17 {
			now.Add(now, big.NewInt(1))
		}
		if e.At == at && e.Kind == 16 {
			now.Sub(now, big.NewInt(1))
		}
		if now.Cmp(low) < 0 {
			low.Set(now)
		}
	}
	if !low.IsInt64() {
		return least, false
	}
	return int(low.Int64()), low.Sign() >= 0
}

// all asks of all histories of up to n of these events.
func all(t *testing.T, n, signals int, l []api.Event, h []api.Event) {
	t.Helper()
	follow(t, h, 8, signals)
	if n > 0 {
		for _, e := range l {
			all(t, n-1, signals, l, append(h, e))
		}
	}
}

// TestAllShort asks of all histories of three events of any kind, and of those of four and five of the kinds of one operation, or two, with another object, another task, and what is of no kind.
func TestAllShort(t *testing.T) {
	var any []api.Event
	for kind := -1; kind <= 20; kind++ {
		any = append(any, ev(0, kind, 8, 1, 0, kind, 16, 0, 1, kind, 8, 0)...)
	}
	all(t, 3, 1, any, nil)
	all(t, 4, 0, ev(0, 1, 8, 5, 0, 2, 8, -1, 0, 2, 8, 0, 0, 3, 8, 0, 0, 4, 8, 5, 0, 5, 8, 5, 0, 3, 16, 0, 0, 5, 16, 0, 0, 99, 16, 0, 1, 1, 8, 6, 1, 2, 8, -1, 1, 99, 8, 0), nil)
	all(t, 4, 0, ev(7, 6, 8, 5, 7, 7, 8, -1, 7, 7, 8, 0, 7, 8, 8, 0, 7, 9, 8, 5, 7, 10, 8, 5, 7, 6, 16, 0, 7, 7, 16, 0, 8, 6, 8, 6, 8, 7, 8, 1), nil)
	all(t, 5, 0, ev(0, 11, 8, 0, 0, 12, 8, 0, 0, 12, 8, 1, 0, 13, 8, 0, 1, 11, 8, 0, 1, 12, 8, 0, 1, 12, 8, 1, 1, 13, 8, 0), nil)
	for n := -1; n <= 1; n++ {
		all(t, 5, n, ev(0, 15, 8, 0, 0, 16, 8, 0, 0, 17, 8, 0, 0, 18, 8, 0, 1, 16, 8, 0, 0, 16, 16, 0), nil)
	}
}

// likely tells histories as tasks tell them: a task calls, and returns what it called, as lies before it; now and then something is told that is not so.
func likely(x *mix, n, odd int) []api.Event {
	l := make([]api.Event, 0, n)
	open := map[int]api.Event{}
	tickets := map[int]int{}
	for len(l) < n {
		task := x.below(9) - 1
		u, ok := open[task]
		e := api.Event{Task: task, Kind: x.of(1, 3, 6, 8, 11, 13, 15, 17), At: x.of(8, 8, 16), Val: x.below(4) - 1}
		if ok {
			e = api.Event{Task: task, Kind: u.Kind + 1, At: u.At, Val: x.below(4) - 1}
			if (u.Kind == 3 || u.Kind == 8) && x.below(2) == 0 {
				e.Kind++
			}
		}
		if e.Kind == 12 {
			e.Val = tickets[e.At]
			tickets[e.At]++
		}
		if delete(open, task); !ok {
			open[task] = e
		}
		if odd > 0 && x.below(odd) == 0 {
			e = api.Event{Task: x.below(10) - 1, Kind: x.below(22) - 1, At: x.of(8, 16, 24), Val: x.below(4) - 1}
		}
		l = append(l, e)
	}
	return l
}

// TestMixes asks of mixes, of those as tasks tell them, of those with something odd, and of any numbers.
func TestMixes(t *testing.T) {
	x := mix(21)
	sound, wrong := 0, 0
	for turn := range 6000 {
		h := likely(&x, x.below(40), []int{0, 5, 20, 60}[turn%4])
		for _, at := range []int{8, 16} {
			if got := follow(t, h, at, x.below(5)-1); got.isOps && len(got.ops) > 2 {
				sound++
			} else if !got.isOps {
				wrong++
			}
		}
	}
	if min(sound, wrong) < 1000 {
		t.Errorf("%d times true, %d times false", sound, wrong)
	}
	odd := []int{least, least + 1, -1, 0, 1, 2, 5, 7, 8, 9, 1 << 32, 1<<32 + 1, 1 << 62, greatest}
	for range 6000 {
		var h []api.Event
		for range x.below(12) {
			h = append(h, api.Event{Task: x.of(odd...), Kind: x.of(x.of(odd...), 1+x.below(18)), At: x.of(x.of(odd...), 8), Val: x.of(odd...)})
		}
		follow(t, h, x.of(8, x.of(odd...)), x.of(odd...))
	}
}

// TestLocks asks of mixes of one lock, some of which hold it to its promise, for a while.
func TestLocks(t *testing.T) {
	x := mix(12)
	held := [4]int{}
	for turn := range 6000 {
		var h []api.Event
		ticket := 0
		for range x.below(30) {
			e := api.Event{Task: x.below(3), Kind: x.of(11, 12, 13, 14), At: 8}
			if len(h) > 0 && x.below(1+turn%9) > 0 { // what comes behind the last one
				e = h[len(h)-1]
				e.Val = 0
				if e.Kind++; e.Kind == 15 {
					e.Kind, e.Task = 11, x.below(3)
				}
			}
			if e.Kind == 12 {
				e.Val = ticket
				ticket++
			}
			h = append(h, e)
		}
		got := follow(t, h, 8, 0)
		if got.isLock {
			held[got.most]++
		}
	}
	if held[0] < 100 || held[1] < 100 || held[2] < 20 {
		t.Errorf("%v were true", held)
	}
}
