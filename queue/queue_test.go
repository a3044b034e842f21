package queue

import (
	"fmt"
	"math"
	"math/rand"
	"slices"
	"sort"
	"testing"
)

const (
	least = math.MinInt
	most  = math.MaxInt
	tick  = 1 << 40
)

func it(id, prio, turn int) Item { return Item{Id: id, Prio: prio, Turn: turn} }

func of(next int, l ...Item) Queue { return Queue{Next: next, L: l} }

// roomy is a queue whose list has room behind its end, in which stands what nobody is to touch.
func roomy(q Queue) Queue {
	l := make([]Item, 0, len(q.L)+4)
	l = append(l, q.L...)
	for range 4 {
		l = append(l, it(77, 78, 79))
	}
	return Queue{Next: q.Next, L: l[:len(q.L)]}
}

// whole is a queue's list, with what lies in its room.
func whole(q Queue) []Item { return slices.Clone(q.L[:cap(q.L)]) }

func same(a, b Queue) bool { return a.Next == b.Next && slices.Equal(a.L, b.L) }

// kept tells if a call changed a queue's list, or what lies in its room.
func kept(t *testing.T, what string, q Queue, was []Item) {
	t.Helper()
	if !slices.Equal(whole(q), was) {
		t.Errorf("%s changed the queue that was handed in: %v, not %v", what, whole(q), was)
	}
}

func sane(t *testing.T, q Queue, want bool) {
	t.Helper()
	in := roomy(q)
	was := whole(in)
	if got := Sane(in); got != want {
		t.Errorf("Sane(%v) = %v", q, got)
	}
	kept(t, "Sane", in, was)
}

func put(t *testing.T, q Queue, id, prio int, want Queue, ok bool) Queue {
	t.Helper()
	in := roomy(q)
	was := whole(in)
	got, gotOk := Put(in, id, prio)
	if !same(got, want) || gotOk != ok {
		t.Errorf("Put(%v, %d, %d) = %v, %v, not %v, %v", q, id, prio, got, gotOk, want, ok)
	}
	kept(t, "Put", in, was)
	return got
}

func take(t *testing.T, q, want Queue, id int, ok bool) Queue {
	t.Helper()
	in := roomy(q)
	was := whole(in)
	got, gotId, gotOk := Take(in)
	if !same(got, want) || gotId != id || gotOk != ok {
		t.Errorf("Take(%v) = %v, %d, %v, not %v, %d, %v", q, got, gotId, gotOk, want, id, ok)
	}
	kept(t, "Take", in, was)
	return got
}

func nth(t *testing.T, q Queue, n int, want Queue, id int, ok bool) {
	t.Helper()
	in := roomy(q)
	was := whole(in)
	got, gotId, gotOk := Nth(in, n)
	if !same(got, want) || gotId != id || gotOk != ok {
		t.Errorf("Nth(%v, %d) = %v, %d, %v, not %v, %d, %v", q, n, got, gotId, gotOk, want, id, ok)
	}
	kept(t, "Nth", in, was)
}

func drop(t *testing.T, q Queue, id int, want Queue, ok bool) {
	t.Helper()
	in := roomy(q)
	was := whole(in)
	got, gotOk := Drop(in, id)
	if !same(got, want) || gotOk != ok {
		t.Errorf("Drop(%v, %d) = %v, %v, not %v, %v", q, id, got, gotOk, want, ok)
	}
	kept(t, "Drop", in, was)
}

func ids(t *testing.T, q Queue, want ...int) {
	t.Helper()
	in := roomy(q)
	was := whole(in)
	if got := Ids(in); !slices.Equal(got, want) {
		t.Errorf("Ids(%v) = %v, not %v", q, got, want)
	}
	kept(t, "Ids", in, was)
}

// spread is a queue of n items, 8 at most: their Ids are all but in order, each priority has some, and turns are missing between.
func spread(n int) Queue {
	all := []Item{it(3, 4, 2), it(0, 3, 1), it(6, 3, 30), it(1, 2, 4), it(7, 2, 9), it(2, 2, 11), it(5, 1, 0), it(4, 0, 17)}
	return Queue{Next: 40, L: all[:n]}
}

// insane are queues that may not be, of each kind, by what is wrong with them.
func insane() map[string]Queue {
	nine := make([]Item, 9)
	for k := range nine {
		nine[k] = it(k, 2, k)
	}
	nineIds := slices.Clone(nine)
	nineIds[8].Id = 7
	many := make([]Item, 5000)
	return map[string]Queue{
		"Next below 0":                    of(-1),
		"Next below 0 of one":             of(-1, it(1, 1, -2)),
		"the least Next":                  of(least),
		"Next above":                      of(tick+1, it(1, 1, 1)),
		"the most Next":                   of(most),
		"nine":                            of(9, nine...),
		"nine, whose Ids may be":          of(9, nineIds...),
		"five thousand":                   of(9, many...),
		"Id below 0":                      of(9, it(-1, 1, 1)),
		"Id above":                        of(9, it(8, 1, 1)),
		"the least Id":                    of(9, it(least, 1, 1)),
		"the most Id":                     of(9, it(most, 1, 1)),
		"Id above, behind":                of(9, it(2, 2, 1), it(8, 1, 2)),
		"priority below 0":                of(9, it(1, -1, 1)),
		"priority above":                  of(9, it(1, 5, 1)),
		"the least priority":              of(9, it(1, least, 1)),
		"the most priority":               of(9, it(1, most, 1)),
		"priority below 0, behind":        of(9, it(1, 0, 1), it(2, -1, 2)),
		"turn below 0":                    of(9, it(1, 1, -1)),
		"the least turn":                  of(9, it(1, 1, least)),
		"turn of Next":                    of(9, it(1, 1, 9)),
		"turn above Next":                 of(9, it(1, 1, 10)),
		"the most turn":                   of(tick, it(1, 1, most)),
		"turn 0 of Next 0":                of(0, it(1, 1, 0)),
		"turn of Next, the most":          of(tick, it(1, 1, tick)),
		"turn of Next, behind":            of(9, it(1, 1, 1), it(2, 1, 9)),
		"one Id, one priority":            of(9, it(1, 1, 1), it(1, 1, 2)),
		"one Id, two priorities":          of(9, it(1, 2, 1), it(1, 1, 2)),
		"one Id, not side by side":        of(9, it(1, 2, 1), it(3, 2, 4), it(1, 1, 2)),
		"one turn, one priority":          of(9, it(1, 1, 3), it(2, 1, 3)),
		"one turn, two priorities":        of(9, it(1, 2, 3), it(2, 1, 3)),
		"one turn, not side by side":      of(9, it(1, 3, 3), it(0, 2, 4), it(2, 1, 3)),
		"one item twice":                  of(9, it(1, 1, 3), it(1, 1, 3)),
		"wrong by turn":                   of(9, it(1, 1, 2), it(2, 1, 1)),
		"wrong by turn, by the most":      of(tick, it(1, 1, tick-1), it(2, 1, 0)),
		"wrong by turn, by one, the most": of(tick, it(1, 1, tick-1), it(2, 1, tick-2)),
		"wrong by priority":               of(9, it(1, 1, 1), it(2, 2, 2)),
		"wrong by priority, turns down":   of(9, it(1, 1, 2), it(2, 2, 1)),
		"wrong by priority, turns most":   of(tick, it(1, 3, 0), it(2, 4, tick-1)),
		"wrong by priority, turns fall":   of(tick, it(1, 3, tick-1), it(2, 4, 0)),
		"wrong at the end":                of(20, it(1, 4, 2), it(2, 3, 7), it(3, 3, 9), it(4, 3, 8)),
		"wrong at the beginning":          of(20, it(1, 3, 7), it(2, 4, 2), it(3, 3, 8), it(4, 3, 9)),
	}
}

// P16.1, in which a queue may be.
func TestSane(t *testing.T) {
	sane(t, Queue{}, true)
	sane(t, Queue{L: []Item{}}, true)
	for n := range 9 {
		sane(t, spread(n), true)
	}
	for _, next := range []int{0, 1, 7, tick - 1, tick} {
		sane(t, of(next), true)
		if next > 0 {
			sane(t, of(next, it(2, 3, next-1)), true)
			sane(t, of(next, it(2, 3, 0)), true)
		}
		sane(t, of(next, it(2, 3, next)), false)
		sane(t, of(next, it(2, 3, -1)), false)
	}
	for id := range 8 {
		for prio := range 5 {
			sane(t, of(5, it(id, prio, 3)), true)
		}
	}
	for what, q := range insane() {
		if Sane(q) {
			t.Errorf("Sane of %s", what)
		}
		sane(t, q, false)
	}
}

// P16.1: turns as large as they may be, and what they do beside priorities.
func TestSaneOfLargeTurns(t *testing.T) {
	sane(t, of(tick, it(0, 2, tick-2), it(1, 2, tick-1)), true)
	sane(t, of(tick, it(0, 2, tick-1), it(1, 2, tick-2)), false)
	sane(t, of(tick, it(0, 4, 0), it(1, 4, tick-1)), true)
	for p := range 4 {
		sane(t, of(tick, it(0, p+1, tick-1), it(1, p, 0)), true)
		sane(t, of(tick, it(0, p+1, 0), it(1, p, tick-1)), true)
		sane(t, of(tick, it(0, p, tick-1), it(1, p+1, 0)), false)
		sane(t, of(tick, it(0, p, 0), it(1, p+1, tick-1)), false)
	}
	var l []Item
	for k := range 8 {
		l = append(l, it(7-k, 4, tick-8+k))
	}
	sane(t, of(tick, l...), true)
	sane(t, of(tick-1, l...), false)
	for k := range 7 {
		w := slices.Clone(l)
		w[k].Turn, w[k+1].Turn = w[k+1].Turn, w[k].Turn
		sane(t, of(tick, w...), false)
	}
}

// P16.1, which two items go side by side, by priorities and turns.
func TestSaneOfTwo(t *testing.T) {
	turns := []int{0, 1, 2, 1<<24 - 1, 1 << 24, 1<<24 + 1, 1 << 32, tick - 3, tick - 2, tick - 1}
	for p := range 5 {
		for o := range 5 {
			for _, a := range turns {
				for _, b := range turns {
					want := a != b && (p > o || p == o && a < b)
					sane(t, of(tick, it(3, p, a), it(4, o, b)), want)
					sane(t, of(tick, it(3, p, a), it(3, o, b)), false)
				}
			}
		}
	}
}

// P16.1: of a queue that may not be each call takes an empty one.
func TestCallsOfInsane(t *testing.T) {
	for what, q := range insane() {
		t.Run(what, func(t *testing.T) {
			for _, prio := range []int{0, 2, 4} {
				put(t, q, 7, prio, of(1, it(7, prio, 0)), true)
				put(t, q, 1, prio, of(1, it(1, prio, 0)), true)
			}
			put(t, q, 8, 1, Queue{}, false)
			put(t, q, -1, 1, Queue{}, false)
			put(t, q, 1, 5, Queue{}, false)
			put(t, q, 1, -1, Queue{}, false)
			take(t, q, Queue{}, 0, false)
			for _, n := range []int{least, -1, 0, 1, 2, most} {
				nth(t, q, n, Queue{}, 0, false)
			}
			for _, id := range []int{-1, 0, 1, 2, 7, 8} {
				drop(t, q, id, Queue{}, false)
			}
			ids(t, q)
		})
	}
}

// P16.2, where the item lies, of all numbers of items.
func TestPut(t *testing.T) {
	put(t, Queue{}, 3, 1, of(1, it(3, 1, 0)), true)
	put(t, of(6), 0, 0, of(7, it(0, 0, 6)), true)
	// How many of spread's items have this priority at least.
	ahead := [][]int{{0, 0, 0, 0, 0}, {1, 1, 1, 1, 1}, {2, 2, 2, 2, 1}, {3, 3, 3, 3, 1}, {4, 4, 4, 3, 1}, {5, 5, 5, 3, 1}, {6, 6, 6, 3, 1}, {7, 7, 6, 3, 1}}
	for n := range 8 {
		q := spread(n)
		for prio := range 5 {
			for id := range 8 {
				if slices.ContainsFunc(q.L, func(i Item) bool { return i.Id == id }) {
					put(t, q, id, prio, q, false)
					continue
				}
				want := Queue{Next: 41, L: slices.Insert(slices.Clone(q.L), ahead[n][prio], it(id, prio, 40))}
				sane(t, put(t, q, id, prio, want, true), true)
			}
		}
	}
	full := spread(8)
	for id := -1; id <= 8; id++ {
		for prio := -1; prio <= 5; prio++ {
			put(t, full, id, prio, full, false)
		}
	}
}

// P16.2, what may not be put.
func TestPutNot(t *testing.T) {
	for _, q := range []Queue{{}, of(12), spread(3), of(tick-1, it(4, 4, tick-2))} {
		for _, id := range []int{least, -8, -1, 8, 9, 1 << 32, most} {
			for _, prio := range []int{least, -1, 0, 1, 4, 5, most} {
				put(t, q, id, prio, q, false)
			}
		}
		for _, prio := range []int{least, -2, -1, 5, 6, 1 << 32, most} {
			for id := range 8 {
				put(t, q, id, prio, q, false)
			}
		}
	}
}

// P16.2, at the ends of Next.
func TestPutNext(t *testing.T) {
	put(t, of(0), 2, 2, of(1, it(2, 2, 0)), true)
	put(t, of(tick-2), 2, 2, of(tick-1, it(2, 2, tick-2)), true)
	last := put(t, of(tick-1), 2, 2, of(tick, it(2, 2, tick-1)), true)
	sane(t, last, true)
	put(t, last, 3, 2, last, false)
	put(t, of(tick), 2, 2, of(tick), false)
	put(t, of(tick+1), 2, 2, of(1, it(2, 2, 0)), true)
	put(t, of(-1), 2, 2, of(1, it(2, 2, 0)), true)
	// A turn that differs by one alone from the one ahead of it.
	q := of(tick-1, it(1, 3, tick-2), it(0, 2, 0))
	put(t, q, 2, 4, of(tick, it(2, 4, tick-1), it(1, 3, tick-2), it(0, 2, 0)), true)
	put(t, q, 2, 3, of(tick, it(1, 3, tick-2), it(2, 3, tick-1), it(0, 2, 0)), true)
	put(t, q, 2, 2, of(tick, it(1, 3, tick-2), it(0, 2, 0), it(2, 2, tick-1)), true)
	put(t, q, 2, 1, of(tick, it(1, 3, tick-2), it(0, 2, 0), it(2, 1, tick-1)), true)
	if r, ok := Put(last, 3, 2); ok || r.Next != tick || len(r.L) != 1 {
		t.Error("Put at the last Next", r, ok)
	}
}

// P16.3: Take until there is none.
func TestTake(t *testing.T) {
	q := spread(8)
	for _, id := range []int{3, 0, 6, 1, 7, 2, 5, 4} {
		q = take(t, q, Queue{Next: 40, L: q.L[1:]}, id, true)
		sane(t, q, true)
	}
	take(t, q, of(40), 0, false)
	take(t, Queue{}, Queue{}, 0, false)
	take(t, of(tick), of(tick), 0, false)
	take(t, of(tick, it(0, 0, tick-1)), of(tick), 0, true)
	if r, _, _ := Take(of(8, it(5, 2, 7))); r.Next != 8 || len(r.L) != 0 {
		t.Error("the last one", r)
	}
}

// P16.3: Nth of each place, and of numbers that are none.
func TestNth(t *testing.T) {
	for n := 1; n <= 8; n++ {
		q := spread(n)
		at := func(k int) Queue { return Queue{Next: 40, L: slices.Delete(slices.Clone(q.L), k, k+1)} }
		for k := range n {
			for _, turns := range []int{0, 1, 2, 1000003} {
				nth(t, q, k+turns*n, at(k), q.L[k].Id, true)
			}
			r, _, _ := Nth(q, k)
			sane(t, r, true)
		}
		for _, low := range []int{-1, -2, 1 - n, -n, -n - 1, -8, least, least + 1} {
			nth(t, q, low, at(0), q.L[0].Id, true)
		}
		nth(t, q, most, at(most%n), q.L[most%n].Id, true)
		nth(t, q, most-1, at((most-1)%n), q.L[(most-1)%n].Id, true)
	}
	for _, n := range []int{least, -1, 0, 1, 7, 8, most} {
		nth(t, Queue{}, n, Queue{}, 0, false)
		nth(t, of(5), n, of(5), 0, false)
	}
}

// P16.3: Drop of each, and of such as are not there.
func TestDrop(t *testing.T) {
	for n := range 9 {
		q := spread(n)
		for id := range 8 {
			k := slices.IndexFunc(q.L, func(i Item) bool { return i.Id == id })
			if k < 0 {
				drop(t, q, id, q, false)
				continue
			}
			want := Queue{Next: 40, L: slices.Delete(slices.Clone(q.L), k, k+1)}
			drop(t, q, id, want, true)
			drop(t, want, id, want, false)
			sane(t, want, true)
		}
		for _, id := range []int{least, -9, -1, 8, 9, most} {
			drop(t, q, id, q, false)
		}
	}
	drop(t, Queue{}, 0, Queue{}, false)
	drop(t, of(tick), 0, of(tick), false)
}

// P16.3: Ids in order.
func TestIds(t *testing.T) {
	want := []int{3, 0, 6, 1, 7, 2, 5, 4}
	for n := range 9 {
		ids(t, spread(n), want[:n]...)
	}
	ids(t, Queue{})
	ids(t, of(tick))
	ids(t, of(tick, it(0, 4, tick-1), it(1, 3, 0)), 0, 1)
}

// P16.4, the example, and who has waited longest among those of one priority.
func TestWhoIsFirst(t *testing.T) {
	q, _ := Put(Queue{}, 3, 1)
	q, _ = Put(q, 5, 2)
	q, _ = Put(q, 4, 2)
	ids(t, q, 5, 4, 3)
	var got []int
	for {
		r, id, ok := Take(q)
		if !ok {
			break
		}
		got, q = append(got, id), r
	}
	if !slices.Equal(got, []int{5, 4, 3}) {
		t.Error(got)
	}
	// By turns: who is taken is put again, and waits behind all others of its priority, and behind none that is below.
	for _, id := range []int{6, 1, 2} {
		q, _ = Put(q, id, 3)
	}
	q, _ = Put(q, 0, 2)
	for round := range 9 {
		r, id, ok := Take(q)
		if want := []int{6, 1, 2}[round%3]; id != want || !ok {
			t.Fatal(round, id, ok)
		}
		q, ok = Put(r, id, 3)
		if !ok || !Sane(q) || q.L[2].Id != id || q.L[3].Id != 0 {
			t.Fatal(round, q)
		}
	}
}

// P16.4: one item of a queue of each number of items goes round all priorities.
func TestPrioritiesGoRound(t *testing.T) {
	for n := 1; n <= 8; n++ {
		q := Queue{}
		for id := range n {
			q, _ = Put(q, id, id%5)
		}
		ref := model{q.Next, slices.Clone(q.L)}
		for k := range 60 {
			r, id, ok := Take(q)
			r, again := Put(r, id, (id+k)%5)
			refId, _ := ref.take()
			ref.put(id, (id+k)%5)
			if !ok || !again || id != refId || !Sane(r) || !same(r, Queue(ref)) {
				t.Fatal(n, k, id, refId, r, ref)
			}
			q = r
		}
	}
}

// model is a queue that is sorted anew behind each item that is put, by whole numbers.
type model Queue

func (m *model) has(id int) int {
	return slices.IndexFunc(m.L, func(i Item) bool { return i.Id == id })
}

func (m *model) put(id, prio int) bool {
	if id < 0 || id > 7 || prio < 0 || prio > 4 || m.Next >= tick || m.has(id) >= 0 {
		return false
	}
	m.L = append(m.L, it(id, prio, m.Next))
	m.Next++
	sort.Slice(m.L, func(a, b int) bool {
		x, y := m.L[a], m.L[b]
		return x.Prio > y.Prio || x.Prio == y.Prio && x.Turn < y.Turn
	})
	return true
}

func (m *model) take() (int, bool) { return m.nth(0) }

func (m *model) nth(n int) (int, bool) {
	if len(m.L) == 0 {
		return 0, false
	}
	if n < 0 {
		n = 0
	}
	n %= len(m.L)
	id := m.L[n].Id
	m.L = slices.Delete(m.L, n, n+1)
	return id, true
}

func (m *model) drop(id int) bool {
	at := m.has(id)
	if at >= 0 {
		m.L = slices.Delete(m.L, at, at+1)
	}
	return at >= 0
}

// P16.1 to P16.4 at mixes of calls, beside the model; what was answered before stays as it was.
func TestMixes(t *testing.T) {
	rnd := rand.New(rand.NewSource(16))
	for range 400 {
		ref := model{Next: []int{0, 5, 1 << 20, tick - 40, tick - 9}[rnd.Intn(5)]}
		q := roomy(Queue(ref))
		for k := range 80 {
			was := whole(q)
			told, got := mixed(rnd, &ref, q)
			if told != "" {
				t.Fatal(k, told)
			}
			kept(t, "a call", q, was)
			if !same(got, Queue(ref)) || !Sane(got) {
				t.Fatal(k, got, ref)
			}
			q = roomy(got)
		}
	}
}

// mixed does a call by the model and of a queue, and tells where the two are not one.
func mixed(rnd *rand.Rand, ref *model, q Queue) (string, Queue) {
	switch rnd.Intn(6) {
	case 0:
		n := rnd.Intn(24) - 6
		r, id, ok := Nth(q, n)
		want, wantOk := ref.nth(n)
		if id != want || ok != wantOk {
			return fmt.Sprint("Nth ", n, id, ok, want, wantOk), r
		}
		return "", r
	case 1:
		r, id, ok := Take(q)
		want, wantOk := ref.take()
		if id != want || ok != wantOk {
			return fmt.Sprint("Take ", id, ok, want, wantOk), r
		}
		return "", r
	case 2:
		id := rnd.Intn(10) - 1
		r, ok := Drop(q, id)
		if want := ref.drop(id); ok != want {
			return fmt.Sprint("Drop ", id, ok, want), r
		}
		return "", r
	}
	id, prio := rnd.Intn(10)-1, rnd.Intn(7)-1
	r, ok := Put(q, id, prio)
	if want := ref.put(id, prio); ok != want {
		return fmt.Sprint("Put ", id, prio, ok, want), r
	}
	return "", r
}

// modelSane is P16.1 written out, by whole numbers and for any two items.
func modelSane(q Queue) bool {
	ok := q.Next >= 0 && q.Next <= tick && len(q.L) <= 8
	for a, x := range q.L {
		ok = ok && x.Id >= 0 && x.Id <= 7 && x.Prio >= 0 && x.Prio <= 4 && x.Turn >= 0 && x.Turn < q.Next
		for _, y := range q.L[a+1:] {
			ok = ok && x.Id != y.Id && x.Turn != y.Turn && (x.Prio > y.Prio || x.Prio == y.Prio && x.Turn < y.Turn)
		}
	}
	return ok
}

// P16.1 at mixes of numbers: some queues that may be, with a number or two of them changed.
func TestSaneMixes(t *testing.T) {
	rnd := rand.New(rand.NewSource(161))
	odd := []int{least, -1, 0, 1, 2, 3, 4, 5, 6, 7, 8, 9, 39, 40, 41, tick - 1, tick, tick + 1, 1 << 53, 1<<53 + 1, most}
	pick := func() int { return odd[rnd.Intn(len(odd))] }
	good, bad := 0, 0
	for range 60000 {
		q := spread(rnd.Intn(9))
		q.L = slices.Clone(q.L)
		for range rnd.Intn(3) {
			x := &Item{}
			if len(q.L) > 0 {
				x = &q.L[rnd.Intn(len(q.L))]
			}
			*[]*int{&x.Id, &x.Prio, &x.Turn, &q.Next}[rnd.Intn(4)] = pick()
		}
		want := modelSane(q)
		if Sane(q) != want {
			t.Fatalf("Sane(%v) = %v", q, !want)
		}
		if want {
			good++
		} else {
			bad++
		}
		want7 := slices.Clone(q.L)
		if !want {
			want7 = nil
		}
		if got := Ids(q); len(got) != len(want7) {
			t.Fatalf("Ids(%v) = %v", q, got)
		}
	}
	if good < 5000 || bad < 5000 {
		t.Error("one-sided:", good, bad)
	}
}

// R3: two queues that are made from one do not come into each other.
func TestApart(t *testing.T) {
	for n := range 8 {
		q := roomy(spread(n))
		id := []int{3, 0, 6, 1, 7, 2, 5, 4}[n]
		for prio := range 5 {
			a, _ := Put(q, id, prio)
			first := slices.Clone(a.L)
			b, _ := Put(q, id, 4-prio)
			second := slices.Clone(b.L)
			c, _ := Put(a, 8, 0)
			d, _, _ := Take(a)
			e, _ := Drop(a, id)
			f, _ := Put(d, a.L[0].Id, 0)
			g, _ := Put(e, id, 4)
			h, _, _ := Nth(b, 1)
			k, _ := Put(h, id, 2)
			Ids(k)
			if !slices.Equal(a.L, first) || !slices.Equal(b.L, second) || !slices.Equal(c.L, first) {
				t.Error(n, prio, a, b)
			}
			if !Sane(f) || !Sane(g) || !Sane(k) {
				t.Error(n, prio, f, g, k)
			}
		}
	}
}

// R3: Ids is a list of one's own.
func TestIdsIsNew(t *testing.T) {
	q := spread(4)
	a := Ids(q)
	a[0] = 99
	if b := Ids(q); b[0] != 3 || q.L[0].Id != 3 {
		t.Error(b, q)
	}
}

// P1: no call panics, at rows of numbers and of queues.
func TestNoPanic(t *testing.T) {
	odd := []int{least, least + 1, -tick, -9, -8, -1, 0, 1, 4, 5, 7, 8, 9, tick - 1, tick, tick + 1, 1 << 53, most - 1, most}
	var qs []Queue
	for _, q := range insane() {
		qs = append(qs, q)
	}
	for n := range 9 {
		qs = append(qs, spread(n))
	}
	for _, next := range odd {
		for _, turn := range odd {
			qs = append(qs, of(next), of(next, it(1, 2, turn)), of(next, it(1, 2, turn), it(2, 2, next)), of(next, it(turn, next, turn)))
		}
	}
	for _, q := range qs {
		Sane(q)
		Take(q)
		Ids(q)
		for _, a := range odd {
			Nth(q, a)
			Drop(q, a)
			for _, b := range odd {
				if r, _ := Put(q, a, b); !Sane(r) {
					t.Fatalf("Put(%v, %d, %d) = %v", q, a, b, r)
				}
			}
		}
	}
}
