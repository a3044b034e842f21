package timer

import (
	"fmt"
	"math"
	"math/rand"
	"slices"
	"sort"
	"testing"
)

const (
	least = math.MinInt
	most  = math.MaxInt
	late  = 1 << 50
)

func nap(id, wake int) Nap { return Nap{Id: id, Wake: wake} }

func naps(l ...Nap) []Nap { return l }

// roomy is a list that has room behind its end, in which stands what nobody is to touch.
func roomy(l []Nap) []Nap {
	r := make([]Nap, 0, len(l)+4)
	r = append(r, l...)
	for range 4 {
		r = append(r, nap(77, 78))
	}
	return r[:len(l)]
}

// whole is a list, with what lies in its room.
func whole(l []Nap) []Nap { return slices.Clone(l[:cap(l)]) }

// kept tells if a call changed a list, or what lies in its room.
func kept(t *testing.T, what string, l, was []Nap) {
	t.Helper()
	if !slices.Equal(whole(l), was) {
		t.Errorf("%s changed the list that was handed in: %v, not %v", what, whole(l), was)
	}
}

func sane(t *testing.T, l []Nap, want bool) {
	t.Helper()
	in := roomy(l)
	was := whole(in)
	if got := Sane(in); got != want {
		t.Errorf("Sane(%v) = %v", l, got)
	}
	kept(t, "Sane", in, was)
}

func put(t *testing.T, l []Nap, id, wake int, want []Nap, ok bool) []Nap {
	t.Helper()
	in := roomy(l)
	was := whole(in)
	got, gotOk := Put(in, id, wake)
	if !slices.Equal(got, want) || gotOk != ok {
		t.Errorf("Put(%v, %d, %d) = %v, %v, not %v, %v", l, id, wake, got, gotOk, want, ok)
	}
	kept(t, "Put", in, was)
	return got
}

func dueAt(t *testing.T, l []Nap, tick int, want []Nap, ids ...int) []Nap {
	t.Helper()
	in := roomy(l)
	was := whole(in)
	got, gotIds := Due(in, tick)
	if !slices.Equal(got, want) || !slices.Equal(gotIds, ids) {
		t.Errorf("Due(%v, %d) = %v, %v, not %v, %v", l, tick, got, gotIds, want, ids)
	}
	kept(t, "Due", in, was)
	return got
}

func drop(t *testing.T, l []Nap, id int, want []Nap, ok bool) {
	t.Helper()
	in := roomy(l)
	was := whole(in)
	got, gotOk := Drop(in, id)
	if !slices.Equal(got, want) || gotOk != ok {
		t.Errorf("Drop(%v, %d) = %v, %v, not %v, %v", l, id, got, gotOk, want, ok)
	}
	kept(t, "Drop", in, was)
}

func next(t *testing.T, l []Nap, want int, ok bool) {
	t.Helper()
	in := roomy(l)
	was := whole(in)
	got, gotOk := Next(in)
	if got != want || gotOk != ok {
		t.Errorf("Next(%v) = %d, %v, not %d, %v", l, got, gotOk, want, ok)
	}
	kept(t, "Next", in, was)
}

// spread are n that sleep, 8 at most: their Ids are all but in order, some have one Wake, and there are ticks between.
func spread(n int) []Nap {
	return []Nap{nap(3, 10), nap(0, 20), nap(6, 20), nap(1, 30), nap(7, 50), nap(2, 50), nap(5, 50), nap(4, 70)}[:n]
}

// order are the Ids of spread.
func order() []int { return []int{3, 0, 6, 1, 7, 2, 5, 4} }

// level are n that have one Wake, the last Id first.
func level(n, wake int) []Nap {
	var l []Nap
	for k := range n {
		l = append(l, nap(7-k, wake))
	}
	return l
}

// insane are lists that may not be, of each kind, by what is wrong with them.
func insane() map[string][]Nap {
	nine := make([]Nap, 9)
	for k := range nine {
		nine[k] = nap(k, k)
	}
	nineIds := slices.Clone(nine)
	nineIds[8].Id = 7
	return map[string][]Nap{
		"nine":                             nine,
		"nine, whose Ids may be":           nineIds,
		"five thousand":                    make([]Nap, 5000),
		"Id below 0":                       naps(nap(-1, 5)),
		"Id above":                         naps(nap(8, 5)),
		"the least Id":                     naps(nap(least, 5)),
		"the most Id":                      naps(nap(most, 5)),
		"Id below 0, behind":               naps(nap(2, 5), nap(-1, 6)),
		"Id above, behind":                 naps(nap(2, 5), nap(8, 6)),
		"Id above, ahead":                  naps(nap(8, 5), nap(2, 6)),
		"Wake below 0":                     naps(nap(1, -1)),
		"the least Wake":                   naps(nap(1, least)),
		"Wake above":                       naps(nap(1, late+1)),
		"the most Wake":                    naps(nap(1, most)),
		"Wake above, behind":               naps(nap(1, late), nap(2, late+1)),
		"Wake below 0, ahead":              naps(nap(1, -1), nap(2, 0)),
		"two below 0":                      naps(nap(1, -2), nap(2, -1)),
		"one Id, one Wake":                 naps(nap(1, 5), nap(1, 5)),
		"one Id, two Wakes":                naps(nap(1, 5), nap(1, 6)),
		"one Id, not side by side":         naps(nap(1, 5), nap(0, 5), nap(3, 6), nap(1, 7)),
		"the Id 0 twice":                   naps(nap(0, 0), nap(0, 0)),
		"falls by one":                     naps(nap(1, 6), nap(2, 5)),
		"falls to 0":                       naps(nap(1, 1), nap(2, 0)),
		"falls from the latest":            naps(nap(1, late), nap(2, late-1)),
		"falls from the latest to 0":       naps(nap(1, late), nap(2, 0)),
		"falls at the end":                 naps(nap(1, 5), nap(2, 6), nap(3, 7), nap(4, 6)),
		"falls at the end, below all":      naps(nap(1, 5), nap(2, 6), nap(3, 7), nap(4, 0)),
		"falls at the beginning":           naps(nap(1, 6), nap(2, 5), nap(3, 7), nap(4, 8)),
		"falls between, not below the one": naps(nap(1, 3), nap(2, 9), nap(3, 7), nap(4, 9)),
	}
}

// P17.1, which lists may be.
func TestSane(t *testing.T) {
	sane(t, nil, true)
	sane(t, []Nap{}, true)
	if !Sane(nil) || !Sane([]Nap{}) {
		t.Error("none")
	}
	for n := range 9 {
		sane(t, spread(n), true)
		sane(t, level(n, 0), true)
		sane(t, level(n, 9), true)
		sane(t, level(n, late), true)
		sane(t, level(n, late+1), n == 0)
		sane(t, level(n, -1), n == 0)
	}
	sane(t, level(9, 5), false)
	for id := range 8 {
		for _, wake := range []int{0, 1, 1 << 40, 1<<40 + 1, late - 1, late} {
			sane(t, naps(nap(id, wake)), true)
		}
		for _, wake := range []int{least, -late, -1, late + 1, 1 << 51, most} {
			sane(t, naps(nap(id, wake)), false)
		}
	}
	for what, l := range insane() {
		if Sane(l) {
			t.Errorf("Sane of %s", what)
		}
		sane(t, l, false)
	}
}

// P17.1, which two sleep side by side.
func TestSaneOfTwo(t *testing.T) {
	wakes := []int{-1, 0, 1, 2, 1<<32 - 1, 1 << 32, late - 1, late, late + 1}
	for _, a := range wakes {
		for _, b := range wakes {
			want := a >= 0 && a <= b && b <= late
			sane(t, naps(nap(3, a), nap(4, b)), want)
			sane(t, naps(nap(4, a), nap(3, b)), want)
			sane(t, naps(nap(3, a), nap(3, b)), false)
		}
	}
}

// P17.1, two with one Id, or a Wake that falls, at each place of eight.
func TestSaneAtEachPlace(t *testing.T) {
	for a := range 8 {
		for b := range a {
			l := slices.Clone(spread(8))
			l[a].Id = l[b].Id
			sane(t, l, false)
		}
		l := slices.Clone(spread(8))
		l[a].Wake = l[max(a-1, 0)].Wake
		sane(t, l, true)
		l[a].Wake--
		sane(t, l, a == 0)
	}
}

// P17.1: of a list that may not be each call takes none.
func TestCallsOfInsane(t *testing.T) {
	for what, l := range insane() {
		t.Run(what, func(t *testing.T) {
			for _, wake := range []int{0, 5, late} {
				for _, id := range []int{0, 1, 7} {
					put(t, l, id, wake, naps(nap(id, wake)), true)
				}
			}
			put(t, l, 8, 5, nil, false)
			put(t, l, -1, 5, nil, false)
			put(t, l, 1, -1, nil, false)
			put(t, l, 1, late+1, nil, false)
			for _, tick := range []int{least, -1, 0, 5, 6, late, late + 1, most} {
				dueAt(t, l, tick, nil)
			}
			for _, id := range []int{-1, 0, 1, 2, 7, 8} {
				drop(t, l, id, nil, false)
			}
			next(t, l, 0, false)
		})
	}
}

// P17.2, where the one that is put lies, of all numbers of those that sleep.
func TestPut(t *testing.T) {
	put(t, nil, 3, 1, naps(nap(3, 1)), true)
	put(t, nil, 0, 0, naps(nap(0, 0)), true)
	put(t, []Nap{}, 7, late, naps(nap(7, late)), true)
	// How many of spread's eight have this Wake at most.
	for _, w := range []struct{ wake, behind int }{{0, 0}, {9, 0}, {10, 1}, {11, 1}, {19, 1}, {20, 3}, {21, 3}, {29, 3}, {30, 4}, {31, 4}, {49, 4}, {50, 7}, {51, 7}, {69, 7}, {70, 8}, {71, 8}, {late - 1, 8}, {late, 8}} {
		for n := range 9 {
			l := spread(n)
			for id := range 8 {
				if n == 8 || slices.Contains(order()[:n], id) {
					put(t, l, id, w.wake, l, false)
					continue
				}
				want := slices.Insert(slices.Clone(l), min(n, w.behind), nap(id, w.wake))
				sane(t, put(t, l, id, w.wake, want, true), true)
			}
		}
	}
}

// P17.2: all with one Wake lie in the order in which they were put.
func TestPutLevel(t *testing.T) {
	for _, wake := range []int{0, 1, 40, late - 1, late} {
		for n := range 8 {
			l := level(n, wake)
			put(t, l, 7-n, wake, level(n+1, wake), true)
			if wake > 0 {
				put(t, l, 7-n, wake-1, slices.Concat(naps(nap(7-n, wake-1)), l), true)
			}
			if wake < late {
				put(t, l, 7-n, wake+1, slices.Concat(l, naps(nap(7-n, wake+1))), true)
			}
		}
		put(t, level(8, wake), 0, wake, level(8, wake), false)
	}
}

// P17.2, what may not be put.
func TestPutNot(t *testing.T) {
	for _, l := range [][]Nap{nil, spread(1), spread(3), spread(7), spread(8), level(5, late)} {
		for _, id := range []int{least, -8, -1, 8, 9, 1 << 32, most} {
			for _, wake := range []int{least, -1, 0, 20, late, late + 1, most} {
				put(t, l, id, wake, l, false)
			}
		}
		for _, wake := range []int{least, -2, -1, late + 1, late + 2, 1 << 51, most} {
			for id := range 8 {
				put(t, l, id, wake, l, false)
			}
		}
		for _, n := range l {
			for _, wake := range []int{0, n.Wake - 1, n.Wake, n.Wake + 1, late} {
				put(t, l, n.Id, wake, l, false)
			}
		}
	}
}

// P17.2: Drop of each, and of such as are not there.
func TestDrop(t *testing.T) {
	for n := range 9 {
		l := spread(n)
		for id := range 8 {
			k := slices.Index(order()[:n], id)
			if k < 0 {
				drop(t, l, id, l, false)
				continue
			}
			want := slices.Delete(slices.Clone(l), k, k+1)
			drop(t, l, id, want, true)
			drop(t, want, id, want, false)
			sane(t, want, true)
		}
		for _, id := range []int{least, -9, -1, 8, 9, 1 << 32, most} {
			drop(t, l, id, l, false)
		}
		for k := range n {
			drop(t, level(n, 6), 7-k, slices.Delete(level(n, 6), k, k+1), true)
		}
	}
	drop(t, nil, 0, nil, false)
	drop(t, []Nap{}, 0, nil, false)
}

// P17.3: who is due at which tick, of all numbers of those that sleep.
func TestDue(t *testing.T) {
	// How many of spread's eight are due at a tick.
	for _, w := range []struct{ tick, due int }{{least, 0}, {-late, 0}, {-1, 0}, {0, 0}, {1, 0}, {9, 0}, {10, 1}, {11, 1}, {19, 1}, {20, 3}, {21, 3}, {29, 3}, {30, 4}, {31, 4}, {49, 4}, {50, 7}, {51, 7}, {69, 7}, {70, 8}, {71, 8}, {late - 1, 8}, {late, 8}, {late + 1, 8}, {most, 8}} {
		for n := range 9 {
			k := min(n, w.due)
			sane(t, dueAt(t, spread(n), w.tick, spread(n)[k:], order()[:k]...), true)
		}
		dueAt(t, nil, w.tick, nil)
		dueAt(t, []Nap{}, w.tick, nil)
	}
}

// P17.3, at the ends of Wake, and where all have one Wake.
func TestDueAtEnds(t *testing.T) {
	ids := []int{7, 6, 5, 4, 3, 2, 1, 0}
	for _, wake := range []int{0, 1, 40, late - 1, late} {
		for n := range 9 {
			l := level(n, wake)
			for _, tick := range []int{least, -1, wake - 1} {
				dueAt(t, l, tick, l)
			}
			for _, tick := range []int{wake, wake + 1, late, late + 1, most} {
				dueAt(t, l, tick, nil, ids[:n]...)
			}
		}
	}
	l := naps(nap(2, 0), nap(1, late-1), nap(0, late))
	dueAt(t, l, -1, l)
	dueAt(t, l, 0, l[1:], 2)
	dueAt(t, l, late-2, l[1:], 2)
	dueAt(t, l, late-1, l[2:], 2, 1)
	dueAt(t, l, late, nil, 2, 1, 0)
	dueAt(t, l, late+1, nil, 2, 1, 0)
}

// P17.3: when the next one wakes.
func TestNext(t *testing.T) {
	next(t, nil, 0, false)
	next(t, []Nap{}, 0, false)
	for n := 1; n <= 8; n++ {
		next(t, spread(n), 10, true)
		next(t, spread(8)[n-1:], []int{10, 20, 20, 30, 50, 50, 50, 70}[n-1], true)
		for _, wake := range []int{0, 1, late - 1, late} {
			next(t, level(n, wake), wake, true)
		}
	}
	next(t, naps(nap(0, 0), nap(1, late)), 0, true)
}

// P17.4, the example, and who wakes at which tick, step by step.
func TestNoneEarlyNoneLate(t *testing.T) {
	l, _ := Put(nil, 1, 5)
	l, _ = Put(l, 2, 3)
	next(t, l, 3, true)
	dueAt(t, l, 4, naps(nap(1, 5)), 2)

	var all []Nap
	for _, k := range []int{7, 0, 4, 2, 6, 5, 3, 1} {
		ok := false
		if all, ok = Put(all, spread(8)[k].Id, spread(8)[k].Wake); !ok || !Sane(all) {
			t.Fatal(k, all)
		}
	}
	for _, step := range []int{1, 2, 3, 5, 7, 10, 13, 40} {
		woke := map[int]int{}
		for tick, left := 0, all; len(left) > 0; tick += step {
			rest, ids := Due(left, tick)
			for _, id := range ids {
				woke[id] = tick
			}
			if n, ok := Next(rest); ok && n <= tick {
				t.Errorf("at %d one sleeps on till %d", tick, n)
			}
			left = rest
		}
		for _, n := range spread(8) {
			if at, ok := woke[n.Id]; !ok || at < n.Wake || at >= n.Wake+step {
				t.Errorf("%d, till %d, woke at %d by steps of %d", n.Id, n.Wake, at, step)
			}
		}
	}
}

// P17.4: from one Next to the other each wakes at its own time.
func TestFromNextToNext(t *testing.T) {
	for n := range 9 {
		left := spread(n)
		for {
			tick, ok := Next(left)
			if !ok {
				break
			}
			if rest, ids := Due(left, tick-1); len(ids) > 0 || !slices.Equal(rest, left) {
				t.Error("ahead of its time", tick, ids)
			}
			rest, ids := Due(left, tick)
			if len(ids) == 0 || len(ids)+len(rest) != len(left) {
				t.Fatal("none woke", tick, ids, rest)
			}
			for k, id := range ids {
				if left[k] != nap(id, tick) {
					t.Error(tick, k, id)
				}
			}
			left = rest
		}
		if len(left) > 0 {
			t.Error("sleeps beyond its time", left)
		}
	}
}

// model are those that sleep, with the turn in which each was put, in no order at all.
type model struct {
	turn  int
	sleep map[int]sleeper
}

type sleeper struct{ wake, turn int }

func (m *model) put(id, wake int) bool {
	if _, ok := m.sleep[id]; ok || id < 0 || id > 7 || wake < 0 || wake > late {
		return false
	}
	m.turn++
	m.sleep[id] = sleeper{wake, m.turn}
	return true
}

func (m *model) drop(id int) bool {
	_, ok := m.sleep[id]
	delete(m.sleep, id)
	return ok
}

func (m *model) due(tick int) []int {
	var ids []int
	for _, n := range m.list() {
		if n.Wake <= tick {
			ids = append(ids, n.Id)
			delete(m.sleep, n.Id)
		}
	}
	return ids
}

// list are all, by Wake, and those with one Wake by turn.
func (m *model) list() []Nap {
	var l []Nap
	for id, s := range m.sleep {
		l = append(l, nap(id, s.wake))
	}
	sort.Slice(l, func(a, b int) bool {
		x, y := m.sleep[l[a].Id], m.sleep[l[b].Id]
		return x.wake < y.wake || x.wake == y.wake && x.turn < y.turn
	})
	return l
}

// mixed does a call by the model and of a list, and tells where the two are not one.
func mixed(rnd *rand.Rand, ref *model, l []Nap, tick int) (string, []Nap) {
	switch rnd.Intn(6) {
	case 0:
		r, ids := Due(l, tick)
		if want := ref.due(tick); !slices.Equal(ids, want) {
			return fmt.Sprint("Due ", tick, ids, want), r
		}
		return "", r
	case 1:
		id := rnd.Intn(10) - 1
		r, ok := Drop(l, id)
		if want := ref.drop(id); ok != want {
			return fmt.Sprint("Drop ", id, ok, want), r
		}
		return "", r
	}
	id, wake := rnd.Intn(10)-1, tick+rnd.Intn(12)-2
	r, ok := Put(l, id, wake)
	if want := ref.put(id, wake); ok != want {
		return fmt.Sprint("Put ", id, wake, ok, want), r
	}
	return "", r
}

// P17.2 to P17.4 at mixes of calls, as the ticks go on.
func TestMixes(t *testing.T) {
	rnd := rand.New(rand.NewSource(17))
	for range 500 {
		ref := model{sleep: map[int]sleeper{}}
		tick := []int{-3, 0, 7, 1 << 40, late - 60, late - 9}[rnd.Intn(6)]
		l := roomy(nil)
		for k := range 80 {
			was := whole(l)
			told, got := mixed(rnd, &ref, l, tick)
			if told != "" {
				t.Fatal(k, told)
			}
			kept(t, "a call", l, was)
			want := ref.list()
			if !slices.Equal(got, want) || !Sane(got) {
				t.Fatal(k, got, want)
			}
			if n, ok := Next(got); ok != (len(want) > 0) || ok && n != want[0].Wake {
				t.Fatal(k, got, n, ok)
			}
			l = roomy(got)
			tick += rnd.Intn(3)
		}
	}
}

// modelSane is P17.1 written out, for any two.
func modelSane(l []Nap) bool {
	ok := len(l) <= 8
	for a, x := range l {
		ok = ok && x.Id >= 0 && x.Id <= 7 && x.Wake >= 0 && x.Wake <= late
		for _, y := range l[a+1:] {
			ok = ok && x.Id != y.Id && x.Wake <= y.Wake
		}
	}
	return ok
}

// P17.1 at mixes of numbers: some lists that may be, with a number or two of them changed.
func TestSaneMixes(t *testing.T) {
	rnd := rand.New(rand.NewSource(171))
	odd := []int{least, -1, 0, 1, 2, 3, 4, 5, 6, 7, 8, 9, 10, 11, 19, 20, 21, 30, 49, 50, 51, 70, late - 1, late, late + 1, most}
	good, bad := 0, 0
	for range 60000 {
		l := slices.Clone(spread(rnd.Intn(9)))
		for k := rnd.Intn(3); k > 0 && len(l) > 0; k-- {
			x := &l[rnd.Intn(len(l))]
			*[]*int{&x.Id, &x.Wake}[rnd.Intn(2)] = odd[rnd.Intn(len(odd))]
		}
		want := modelSane(l)
		if Sane(l) != want {
			t.Fatalf("Sane(%v) = %v", l, !want)
		}
		sleep := len(l)
		if want {
			good++
		} else {
			bad++
			sleep = 0
		}
		if rest, ids := Due(l, 20); len(rest)+len(ids) != sleep {
			t.Fatalf("Due(%v, 20) = %v, %v", l, rest, ids)
		}
	}
	if good < 5000 || bad < 5000 {
		t.Error("one-sided:", good, bad)
	}
}

// R3: lists that are made from one do not come into each other.
func TestApart(t *testing.T) {
	for n := range 8 {
		l := roomy(spread(n))
		id := order()[n]
		for _, wake := range []int{0, 20, 45, 50, 99} {
			a, _ := Put(l, id, wake)
			first := slices.Clone(a)
			b, _ := Put(l, id, 99-wake)
			second := slices.Clone(b)
			c, _ := Due(a, 20)
			third := slices.Clone(c)
			d, _ := Drop(a, id)
			e, _ := Put(d, id, 0)
			f, _ := Put(d, id, late)
			g, _ := Put(c, 3, late)
			h, _ := Put(c, 3, 0)
			i, _ := Due(b, 45)
			k, _ := Put(i, 3, 46)
			if !slices.Equal(a, first) || !slices.Equal(b, second) || !slices.Equal(c, third) {
				t.Error(n, wake, a, b, c)
			}
			for _, x := range [][]Nap{e, f, g, h, k} {
				sane(t, x, true)
			}
			if e[0] != nap(id, 0) || f[len(f)-1] != nap(id, late) {
				t.Error(n, wake, e, f)
			}
		}
	}
}

// R3: the Ids of those who wake are a list of one's own, and so is the list of those who sleep on.
func TestDueIsNew(t *testing.T) {
	l := roomy(spread(8))
	was := whole(l)
	a, ids := Due(l, 20)
	ids[0] = 99
	_ = append(a, nap(1, 1))
	a[0] = nap(5, 5)
	if _, again := Due(l, 20); again[0] != 3 {
		t.Error(again)
	}
	kept(t, "Due", l, was)
}

// P1: no call panics, at rows of numbers and of lists.
func TestNoPanic(t *testing.T) {
	odd := []int{least, least + 1, -late, -9, -8, -1, 0, 1, 4, 5, 7, 8, 9, 20, 50, late - 1, late, late + 1, most - 1, most}
	var ls [][]Nap
	for _, l := range insane() {
		ls = append(ls, l)
	}
	for n := range 9 {
		ls = append(ls, spread(n), level(n, late))
	}
	for _, id := range odd {
		for _, wake := range odd {
			ls = append(ls, naps(nap(id, wake)), naps(nap(id, wake), nap(2, 5)), naps(nap(2, wake), nap(id, id)))
		}
	}
	for _, l := range ls {
		Sane(l)
		Next(l)
		for _, a := range odd {
			if r, _ := Due(l, a); !Sane(r) {
				t.Fatalf("Due(%v, %d) = %v", l, a, r)
			}
			if r, _ := Drop(l, a); !Sane(r) {
				t.Fatalf("Drop(%v, %d) = %v", l, a, r)
			}
			for _, b := range odd {
				if r, _ := Put(l, a, b); !Sane(r) {
					t.Fatalf("Put(%v, %d, %d) = %v", l, a, b, r)
				}
			}
		}
	}
}
