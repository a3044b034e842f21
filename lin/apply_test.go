package lin

import (
	"slices"
	"testing"

	"tenterhook/hist"
)

// applies holds what Apply tells against a list and a flag, and against the model.
func applies(t *testing.T, l []int, o hist.Op, n int, want []int, could bool) {
	t.Helper()
	got, ok := apply(t, l, o, n)
	if !slices.Equal(got, want) || ok != could {
		t.Errorf("%v %+v of %d: told %v %v, not %v %v", l, o, n, got, ok, want, could)
	}
	if m, is := modelApply(l, o, n); !slices.Equal(got, m) || ok != is {
		t.Errorf("%v %+v of %d: told %v %v, the model %v %v", l, o, n, got, ok, m, is)
	}
}

// TestNumbers asks that the constants have the document's numbers.
func TestNumbers(t *testing.T) {
	if got, want := []int{No, Yes, Many, Most}, []int{0, 1, 2, 8}; !slices.Equal(got, want) {
		t.Errorf("%v, not %v", got, want)
	}
}

// TestApplyLays asks of a push and an enq, of an object that is empty, and so on till it has no room, and one that holds more than its room.
func TestApplyLays(t *testing.T) {
	for _, kind := range []int{hist.Push, hist.Enq} {
		for held := range 7 {
			l := count(held)
			behind := append(count(held), 9)
			for n := range 7 {
				want := l
				if held < n {
					want = behind
				}
				for _, res := range []int{0, 9, -1} {
					applies(t, l, op(kind, 9, res, true, 0, 1), n, want, held < n)
					applies(t, l, op(kind, 9, res, false, 0, 1), n, want, held >= n)
					applies(t, l, op(kind, 9, res, true, 0, -1), n, want, true)
					applies(t, l, op(kind, 9, res, false, 0, -1), n, want, true)
				}
			}
		}
	}
}

// TestApplyRoom asks of rooms that there are not.
func TestApplyRoom(t *testing.T) {
	for _, x := range []struct{ n, room int }{
		{least, 0}, {-1000, 0}, {-1, 0}, {0, 0}, {1, 1}, {2, 2}, {999, 999}, {1000, 1000}, {1001, 1000}, {1 << 32, 1000}, {1<<32 + 1, 1000}, {1<<63 - 2, 1000}, {greatest, 1000},
	} {
		for _, held := range []int{0, 1, 2, 998, 999, 1000, 1001, 1002} {
			l := count(held)
			for _, kind := range []int{hist.Push, hist.Enq} {
				want := l
				if held < x.room {
					want = append(count(held), 7)
				}
				applies(t, l, op(kind, 7, 0, true, 0, 1), x.n, want, held < x.room)
				applies(t, l, op(kind, 7, 0, false, 0, 1), x.n, want, held >= x.room)
			}
			// What is taken away asks for no room.
			if held > 0 {
				applies(t, l, pop(held-1, 0, 1), x.n, count(held-1), true)
				applies(t, l, deq(0, 0, 1), x.n, l[1:], true)
			} else {
				applies(t, l, none(hist.Pop, 0, 1), x.n, nil, true)
				applies(t, l, none(hist.Deq, 0, 1), x.n, nil, true)
			}
		}
	}
}

// TestApplyDigits asks what is left of a value in a ring, and that all of it is in a stack.
func TestApplyDigits(t *testing.T) {
	for _, x := range []struct{ v, left int }{
		{0, 0}, {1, 1}, {-1, 1<<32 - 1}, {-2, 1<<32 - 2}, {1<<31 - 1, 1<<31 - 1}, {1 << 31, 1 << 31}, {1<<31 + 1, 1<<31 + 1}, {-1 << 31, 1 << 31}, {-1<<31 - 1, 1<<31 - 1}, {-1<<31 + 1, 1<<31 + 1},
		{1<<32 - 1, 1<<32 - 1}, {1 << 32, 0}, {1<<32 + 7, 7}, {-1 << 32, 0}, {-1<<32 - 1, 1<<32 - 1}, {-1<<32 + 5, 5}, {5<<40 + 1<<31, 1 << 31}, {least, 0}, {greatest, 1<<32 - 1},
	} {
		l := vals(4)
		applies(t, l, enq(x.v, 0, 1), 2, []int{4, x.left}, true)
		applies(t, l, full(hist.Enq, x.v, 0, 1), 2, []int{4, x.left}, false)
		applies(t, l, open(hist.Enq, x.v, 0), 2, []int{4, x.left}, true)
		applies(t, l, full(hist.Enq, x.v, 0, 1), 1, l, true)
		applies(t, l, push(x.v, 0, 1), 2, []int{4, x.v}, true)
		applies(t, l, open(hist.Push, x.v, 0), 2, []int{4, x.v}, true)
		// What is taken away is the value that lies there, whatever it is.
		applies(t, vals(x.left, 4), deq(x.left, 0, 1), 2, []int{4}, true)
		applies(t, vals(x.left, 4), deq(x.v, 0, 1), 2, []int{4}, x.v == x.left)
		applies(t, vals(x.v, 4), deq(x.v, 0, 1), 2, []int{4}, true)
		applies(t, vals(x.v, 4), deq(x.left, 0, 1), 2, []int{4}, x.v == x.left)
		applies(t, vals(4, x.v), pop(x.v, 0, 1), 2, []int{4}, true)
		applies(t, vals(4, x.v), pop(x.left, 0, 1), 2, []int{4}, x.v == x.left)
	}
}

// TestApplyTakes asks of a pop and a deq, with each answer.
func TestApplyTakes(t *testing.T) {
	for _, x := range []struct {
		l    []int
		o    hist.Op
		want []int
		ok   bool
	}{
		{vals(5), pop(5, 0, 1), nil, true}, {vals(5), deq(5, 0, 1), nil, true}, {vals(5), pop(6, 0, 1), nil, false}, {vals(5), deq(6, 0, 1), nil, false},
		{vals(5), op(hist.Pop, 0, 5, false, 0, 1), nil, false}, {vals(5), op(hist.Deq, 0, 5, false, 0, 1), nil, false}, {vals(0), none(hist.Pop, 0, 1), nil, false}, {vals(0), none(hist.Deq, 0, 1), nil, false},
		{vals(1, 2), pop(2, 0, 1), []int{1}, true}, {vals(1, 2), pop(1, 0, 1), []int{1}, false}, {vals(1, 2), deq(1, 0, 1), []int{2}, true}, {vals(1, 2), deq(2, 0, 1), []int{2}, false},
		{vals(1, 2, 3), pop(3, 0, 0), []int{1, 2}, true}, {vals(1, 2, 3), pop(2, 0, 0), []int{1, 2}, false}, {vals(1, 2, 3), deq(1, 0, 0), []int{2, 3}, true}, {vals(1, 2, 3), deq(2, 0, 0), []int{2, 3}, false}, {vals(1, 2, 3), deq(3, 0, 0), []int{2, 3}, false},
		{vals(7, 7), pop(7, 0, 1), []int{7}, true}, {vals(7, 7), deq(7, 0, 1), []int{7}, true}, {vals(-1, least), pop(least, 0, 1), []int{-1}, true}, {vals(greatest, -1), deq(greatest, 0, 1), []int{-1}, true},
		// What it is given is not asked for.
		{vals(1, 2), op(hist.Pop, 9, 2, true, 0, 1), []int{1}, true}, {vals(1, 2), op(hist.Deq, 9, 1, true, 0, 1), []int{2}, true},
		// Of nothing there is no result.
		{nil, none(hist.Pop, 0, 1), nil, true}, {nil, none(hist.Deq, 0, 1), nil, true}, {nil, op(hist.Pop, 0, 4, false, 0, 1), nil, true}, {nil, op(hist.Deq, 0, 4, false, 0, 1), nil, true}, {nil, pop(0, 0, 1), nil, false}, {nil, deq(0, 0, 1), nil, false},
		{vals(), none(hist.Pop, 0, 1), nil, true}, {vals(), none(hist.Deq, 0, 1), nil, true}, {vals(), pop(4, 0, 1), nil, false}, {vals(), deq(4, 0, 1), nil, false},
	} {
		for _, n := range []int{-1, 0, 1, 2, 3, 1000} {
			applies(t, x.l, x.o, n, x.want, x.ok)
			for _, to := range []int{-1, -2, least} {
				o := x.o
				o.To = to
				applies(t, x.l, o, n, x.want, true)
			}
			for _, to := range []int{0, 1, greatest} {
				o := x.o
				o.From, o.To, o.Task = 4, to, -9
				applies(t, x.l, o, n, x.want, x.ok)
			}
		}
	}
}

// TestApplyOpen asks of each of the four without an end, with any answer.
func TestApplyOpen(t *testing.T) {
	for _, l := range [][]int{nil, vals(), vals(1), vals(1, 2), vals(1, 2, 3)} {
		for _, n := range []int{0, 1, 2, 3, 4} {
			for _, res := range []int{0, 1, 2, 3, -1, least} {
				for _, ok := range []bool{false, true} {
					room, last, first := l, l, l
					if len(l) < n {
						room = append(slices.Clone(l), 3)
					}
					if len(l) > 0 {
						last, first = l[:len(l)-1], l[1:]
					}
					applies(t, l, op(hist.Push, 3, res, ok, 0, -1), n, room, true)
					applies(t, l, op(hist.Enq, 1<<32+3, res, ok, 0, -1), n, room, true)
					applies(t, l, op(hist.Pop, 3, res, ok, 0, -1), n, last, true)
					applies(t, l, op(hist.Deq, 3, res, ok, 0, -1), n, first, true)
				}
			}
		}
	}
}

// TestApplyOther asks of other kinds, with an end and without.
func TestApplyOther(t *testing.T) {
	for _, kind := range []int{-1, 4, 5, 6, 7, 8, -2, -4, 9, 16, 256, 1 << 32, 1<<32 + 1, 1 << 62, least, least + 1, greatest} {
		for _, l := range [][]int{nil, vals(), vals(1), vals(1, 2), count(1000)} {
			for _, to := range []int{-1, least, 0, 1, 9, greatest} {
				for _, n := range []int{0, 1, 3, 1001} {
					applies(t, l, op(kind, 3, 1, true, 0, to), n, l, false)
					applies(t, l, op(kind, 3, 0, false, 0, to), n, l, false)
				}
			}
		}
	}
}

// TestApplyAll holds Apply against the model at all small mixes.
func TestApplyAll(t *testing.T) {
	var lists [][]int
	for _, row := range rows(3) {
		lists = append(lists, vals(row...))
	}
	for _, l := range lists {
		for kind := -1; kind <= 5; kind++ {
			for _, arg := range []int{-1, 0, 2, 1 << 32} {
				for res := -1; res <= 2; res++ {
					for n := -1; n <= 4; n++ {
						for _, to := range []int{-1, 0} {
							for _, ok := range []bool{false, true} {
								got, could := apply(t, l, op(kind, arg, res, ok, 0, to), n)
								if want, is := modelApply(l, op(kind, arg, res, ok, 0, to), n); !slices.Equal(got, want) || could != is {
									t.Fatalf("%v %d %d %d %v %d of %d: told %v %v, not %v %v", l, kind, arg, res, ok, to, n, got, could, want, is)
								}
							}
						}
					}
				}
			}
		}
	}
}

// TestApplyApart asks that rows of answers, each from the one ahead, stay as they were when all others are written to.
func TestApplyApart(t *testing.T) {
	for turn := range 30 {
		x := mix(turn)
		l := vals(1, 2, 3)
		var all, was [][]int
		for range 40 {
			o := op(x.below(5), x.below(9), 0, x.below(2) == 0, 0, x.of(-1, 0))
			if next, _ := Apply(l, o, 6); x.below(2) == 0 {
				l = next
				all, was = append(all, next), append(was, slices.Clone(next))
			} else { // two answers from one list
				all, was = append(all, next), append(was, slices.Clone(next))
			}
		}
		for k, m := range all {
			stir(m)
			for j, u := range all {
				if j != k && !slices.Equal(u, was[j]) {
					t.Fatalf("turn %d: %v is changed by what is written to %v", turn, was[j], was[k])
				}
			}
			stir(m)
		}
	}
}
