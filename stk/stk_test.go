package stk

import (
	"fmt"
	"math"
	"slices"
	"testing"

	"tenterhook/api"
)

const (
	least    = math.MinInt
	greatest = math.MaxInt
)

// told is all that a call answers, as a text: so a list without elements is the same, nil or not.
func told(parts ...any) string { return fmt.Sprintln(parts...) }

// spare are cells behind the end of a list that is handed in: no call may see or touch them.
const spare = 8

// stack is a stack of n cells, no two of them the same, which has room behind its end.
func stack(n int) []int {
	out := make([]int, n+spare)
	for k := range out {
		out[k] = 100 + 11*k
	}
	return out[:n]
}

// stacks are of no cells, of some, and of as many as a data stack may have.
func stacks() [][]int {
	out := [][]int{nil, {}, {least, greatest, -1, 0}}
	for _, n := range []int{0, 1, 2, 3, 4, 7, api.MaxData} {
		out = append(out, stack(n))
	}
	return out
}

// edges are numbers about 0 and about n, and at the ends of all numbers, among them such that n or 1 less or more goes round.
func edges(n int) []int {
	out := []int{least, least + 1, least + 2, least + n, greatest, greatest - 1, greatest - n, -1 << 32, 1 << 32, 1<<32 + 1, 1 << 62, -1 << 62}
	for k := -3; k <= n+3; k++ {
		out = append(out, k)
	}
	return out
}

// P4.1

func TestPush(t *testing.T) {
	l := []int{1, 2, 3}
	for _, x := range []struct {
		l    []int
		most int
		x    []int
		want []int
		e    api.Throw
	}{
		{l, 9, []int{4}, []int{1, 2, 3, 4}, api.OK}, {l, 9, []int{6, 5, 4}, []int{1, 2, 3, 6, 5, 4}, api.OK}, {nil, 9, []int{7, 8}, []int{7, 8}, api.OK},
		{l, 9, []int{3, 3, least, greatest, 0, -1}, []int{1, 2, 3, 3, 3, least, greatest, 0, -1}, api.OK},
		// Up to most, and one cell more.
		{l, 5, []int{4, 5}, []int{1, 2, 3, 4, 5}, api.OK}, {l, 4, []int{4, 5}, l, api.Over}, {l, 3, []int{4}, l, api.Over}, {l, 4, []int{4}, []int{1, 2, 3, 4}, api.OK},
		{nil, 1, []int{4}, []int{4}, api.OK}, {nil, 0, []int{4}, nil, api.Over}, {nil, 2, []int{4, 5, 6}, nil, api.Over},
		// Of nothing, also where there are more than most already.
		{l, 9, nil, l, api.OK}, {l, 3, nil, l, api.OK}, {l, 3, []int{}, l, api.OK}, {l, 2, nil, l, api.Over}, {l, 0, nil, l, api.Over}, {nil, 0, nil, nil, api.OK}, {[]int{}, 0, []int{}, nil, api.OK},
		{l, 2, []int{4}, l, api.Over},
		{l, -1, nil, l, api.Over}, {nil, -1, nil, nil, api.Over}, {l, -3, []int{4}, l, api.Over}, {l, least, nil, l, api.Over}, {nil, least, nil, nil, api.Over}, {l, least, []int{4}, l, api.Over},
		{l, least + 2, []int{4}, l, api.Over}, {l, greatest, []int{4}, []int{1, 2, 3, 4}, api.OK}, {l, greatest, nil, l, api.OK},
	} {
		if got := told(Push(x.l, x.most, x.x...)); got != told(x.want, x.e) {
			t.Errorf("Push(%v, %d, %v) = %s", x.l, x.most, x.x, got)
		}
	}
}

func TestPushOfOneByOne(t *testing.T) {
	if got := told(Push([]int{1}, 4, 2, 3, 4)); got != told([]int{1, 2, 3, 4}, api.OK) {
		t.Error(got)
	}
	if got := told(Push([]int{1}, 3, 2, 3, 4)); got != told([]int{1}, api.Over) {
		t.Error(got)
	}
	if got := told(Push([]int{1}, 1)); got != told([]int{1}, api.OK) {
		t.Error(got)
	}
}

func TestPop(t *testing.T) {
	l := []int{1, 2, 3}
	for _, x := range []struct {
		l          []int
		n          int
		left, cell []int
		e          api.Throw
	}{
		{l, 1, []int{1, 2}, []int{3}, api.OK}, {l, 2, []int{1}, []int{2, 3}, api.OK},
		// Of 0, of all, and of one more than there are.
		{l, 0, l, nil, api.OK}, {l, 3, nil, l, api.OK}, {l, 4, l, nil, api.Under},
		{nil, 0, nil, nil, api.OK}, {nil, 1, nil, nil, api.Under}, {[]int{}, 0, nil, nil, api.OK}, {[]int{}, 1, nil, nil, api.Under},
		{[]int{7}, 1, nil, []int{7}, api.OK}, {[]int{7}, 2, []int{7}, nil, api.Under},
		{l, -1, l, nil, api.Under}, {l, -3, l, nil, api.Under}, {nil, -1, nil, nil, api.Under},
		{l, least, l, nil, api.Under}, {l, least + 3, l, nil, api.Under}, {l, greatest, l, nil, api.Under}, {l, 1 << 32, l, nil, api.Under},
		{nil, least, nil, nil, api.Under}, {nil, greatest, nil, nil, api.Under},
	} {
		if got := told(Pop(x.l, x.n)); got != told(x.left, x.cell, x.e) {
			t.Errorf("Pop(%v, %d) = %s", x.l, x.n, got)
		}
	}
}

// parted are the first cells of a list, and the others, one by one.
func parted(l []int, first int) (below, above []int) {
	for k, x := range l {
		if k < first {
			below = append(below, x)
		} else {
			above = append(above, x)
		}
	}
	return below, above
}

func TestPushAndPopAtAllNumbers(t *testing.T) {
	for _, whole := range stacks() {
		for first := range len(whole) + 1 {
			l, x := parted(whole, first)
			for _, most := range edges(len(whole)) {
				want := told(whole, api.OK)
				if most < len(whole) {
					want = told(l, api.Over)
				}
				if got := told(Push(l, most, x...)); got != want {
					t.Errorf("Push(%v, %d, %v) = %s, not %s", l, most, x, got, want)
				}
			}
			if got := told(Pop(whole, len(x))); got != told(l, x, api.OK) {
				t.Errorf("Pop(%v, %d) = %s", whole, len(x), got)
			}
		}
		for _, n := range edges(len(whole)) {
			if n >= 0 && n <= len(whole) {
				continue
			}
			if got := told(Pop(whole, n)); got != told(whole, []int{}, api.Under) {
				t.Errorf("Pop(%v, %d) = %s", whole, n, got)
			}
		}
	}
}

// P4.2

func TestPickAndRoll(t *testing.T) {
	l := []int{5, 6, 7, 8}
	for _, x := range []struct {
		l      []int
		n      int
		picked int
		rolled []int
		e      api.Throw
	}{
		{l, 1, 7, []int{5, 6, 8, 7}, api.OK}, {l, 2, 6, []int{5, 7, 8, 6}, api.OK},
		// Of 0, of the lowest cell, and of the one below it.
		{l, 0, 8, l, api.OK}, {l, 3, 5, []int{6, 7, 8, 5}, api.OK}, {l, 4, 0, l, api.Under}, {l, 5, 0, l, api.Under},
		{[]int{9}, 0, 9, []int{9}, api.OK}, {[]int{9}, 1, 0, []int{9}, api.Under}, {nil, 0, 0, nil, api.Under}, {[]int{}, 0, 0, nil, api.Under}, {nil, 1, 0, nil, api.Under},
		{[]int{4, 4, 3}, 2, 4, []int{4, 3, 4}, api.OK}, {[]int{0, least, greatest}, 1, least, []int{0, greatest, least}, api.OK},
		{l, -1, 0, l, api.Under}, {l, -4, 0, l, api.Under}, {nil, -1, 0, nil, api.Under},
		{l, least, 0, l, api.Under}, {l, least + 3, 0, l, api.Under}, {l, greatest, 0, l, api.Under}, {l, greatest - 3, 0, l, api.Under}, {l, 1 << 32, 0, l, api.Under},
		{nil, least, 0, nil, api.Under}, {nil, greatest, 0, nil, api.Under},
	} {
		if got := told(Pick(x.l, x.n)); got != told(x.picked, x.e) {
			t.Errorf("Pick(%v, %d) = %s", x.l, x.n, got)
		}
		if got := told(Roll(x.l, x.n)); got != told(x.rolled, x.e) {
			t.Errorf("Roll(%v, %d) = %s", x.l, x.n, got)
		}
	}
}

// rolled is a list with the cell that n others lie above on top, by changes of neighbours.
func rolled(l []int, n int) []int {
	out := slices.Clone(l)
	for k := len(out) - n; k < len(out); k++ {
		out[k-1], out[k] = out[k], out[k-1]
	}
	return out
}

func TestPickAndRollAtAllPlaces(t *testing.T) {
	for _, l := range stacks() {
		for _, n := range edges(len(l)) {
			picked, roll := told(0, api.Under), told(l, api.Under)
			if n >= 0 && n < len(l) {
				r := rolled(l, n)
				picked, roll = told(r[len(r)-1], api.OK), told(r, api.OK)
			}
			if got := told(Pick(l, n)); got != picked {
				t.Errorf("Pick(%v, %d) = %s, not %s", l, n, got, picked)
			}
			if got := told(Roll(l, n)); got != roll {
				t.Errorf("Roll(%v, %d) = %s, not %s", l, n, got, roll)
			}
		}
	}
}

// P4.3

func TestPermute(t *testing.T) {
	l := []int{1, 2, 3}
	for _, x := range []struct {
		n    int
		to   []int
		most int
		want []int
		e    api.Throw
	}{
		{3, []int{1, 2, 0}, 9, []int{2, 3, 1}, api.OK}, {2, []int{1, 0}, 9, []int{1, 3, 2}, api.OK}, {2, []int{1}, 9, []int{1, 3}, api.OK}, {2, []int{0}, 9, []int{1, 2}, api.OK},
		{3, []int{0, 1, 2}, 9, l, api.OK},
		// A place more than once, and none.
		{1, []int{0, 0}, 9, []int{1, 2, 3, 3}, api.OK}, {2, []int{0, 1, 0}, 9, []int{1, 2, 3, 2}, api.OK}, {2, []int{1, 0, 1}, 9, []int{1, 3, 2, 3}, api.OK}, {3, []int{2, 2, 2, 2}, 9, []int{3, 3, 3, 3}, api.OK},
		{1, nil, 9, []int{1, 2}, api.OK}, {3, nil, 9, nil, api.OK}, {3, []int{}, 9, nil, api.OK}, {3, nil, 0, nil, api.OK},
		// Of 0 cells.
		{0, nil, 9, l, api.OK}, {0, []int{}, 3, l, api.OK}, {0, nil, 2, l, api.Over}, {0, []int{0}, 9, l, api.Under},
		// A place that is not there, first, last and in the middle.
		{2, []int{2}, 9, l, api.Under}, {2, []int{-1}, 9, l, api.Under}, {2, []int{0, 1, 2}, 9, l, api.Under}, {2, []int{3, 0}, 9, l, api.Under}, {3, []int{0, 3, 1}, 9, l, api.Under}, {3, []int{0, -1, 1}, 9, l, api.Under},
		{3, []int{least}, 9, l, api.Under}, {3, []int{greatest}, 9, l, api.Under}, {3, []int{1 << 32}, 9, l, api.Under}, {3, []int{0, least + 2}, 9, l, api.Under},
		// Up to most, and one cell more, with all of l as it was.
		{1, []int{0, 0}, 4, []int{1, 2, 3, 3}, api.OK}, {1, []int{0, 0}, 3, l, api.Over}, {2, []int{1, 0}, 3, []int{1, 3, 2}, api.OK}, {2, []int{1, 0}, 2, l, api.Over}, {3, []int{0}, 1, []int{1}, api.OK}, {3, []int{0}, 0, l, api.Over},
		{2, nil, 1, []int{1}, api.OK}, {2, nil, 0, l, api.Over}, {1, []int{0}, -1, l, api.Over}, {3, nil, -1, l, api.Over}, {3, nil, least, l, api.Over}, {1, []int{0}, least, l, api.Over}, {1, []int{0}, greatest, l, api.OK},
		{4, nil, 9, l, api.Under}, {4, []int{0}, 9, l, api.Under}, {-1, nil, 9, l, api.Under}, {-1, []int{0}, 9, l, api.Under}, {least, nil, 9, l, api.Under}, {greatest, []int{0}, 9, l, api.Under},
		// Both might be told: what cannot be popped, or named, is not pushed.
		{4, nil, 0, l, api.Under}, {4, []int{0, 0, 0, 0, 0}, 3, l, api.Under}, {-1, nil, -1, l, api.Under}, {least, nil, least, l, api.Under},
		{2, []int{0, 2}, 2, l, api.Under}, {2, []int{2, 0}, 0, l, api.Under}, {2, []int{0, 0, 0, 0, 2}, 3, l, api.Under}, {2, []int{0, 0, 0, 0, -1}, 3, l, api.Under}, {0, []int{0}, 0, l, api.Under}, {1, []int{1}, -1, l, api.Under},
	} {
		if got := told(Permute(l, x.n, x.to, x.most)); got != told(x.want, x.e) {
			t.Errorf("Permute(%v, %d, %v, %d) = %s", l, x.n, x.to, x.most, got)
		}
	}
}

func TestPermuteOfNothing(t *testing.T) {
	for _, l := range [][]int{nil, {}} {
		for _, x := range []struct {
			n    int
			to   []int
			most int
			e    api.Throw
		}{
			{0, nil, 9, api.OK}, {0, []int{}, 0, api.OK}, {0, nil, -1, api.Over}, {0, []int{0}, 9, api.Under}, {0, []int{-1}, -1, api.Under},
			{1, nil, 9, api.Under}, {1, []int{0}, 9, api.Under}, {-1, nil, 9, api.Under}, {least, nil, 9, api.Under}, {greatest, nil, greatest, api.Under},
		} {
			if got := told(Permute(l, x.n, x.to, x.most)); got != told([]int{}, x.e) {
				t.Errorf("Permute(%#v, %d, %v, %d) = %s", l, x.n, x.to, x.most, got)
			}
		}
	}
}

// lists are all of at most most elements, of these numbers.
func lists(numbers []int, most int) [][]int {
	out := [][]int{nil}
	for at := 0; at < len(out); at++ {
		if len(out[at]) == most {
			break
		}
		for _, x := range numbers {
			out = append(out, append(slices.Clone(out[at]), x))
		}
	}
	return out
}

// permuted is what is asked, with each place named as Pick names it: from the top.
func permuted(l []int, n int, to []int, most int) string {
	if n < 0 || n > len(l) {
		return told(l, api.Under)
	}
	out, _ := parted(l, len(l)-n)
	for _, i := range to {
		if i < 0 || i >= n {
			return told(l, api.Under)
		}
		x, _ := Pick(l, n-1-i)
		out = append(out, x)
	}
	if len(out) > most {
		return told(l, api.Over)
	}
	return told(out, api.OK)
}

func TestPermuteAtAllNumbers(t *testing.T) {
	for _, l := range stacks() {
		if len(l) > 4 {
			continue
		}
		for _, to := range lists([]int{least, -1, 0, 1, 2, 3, 4, greatest}, 3) {
			for _, n := range edges(len(l)) {
				for _, most := range []int{least, -1, 0, 1, 2, 3, 4, 5, 6, 7, greatest} {
					if got, want := told(Permute(l, n, to, most)), permuted(l, n, to, most); got != want {
						t.Fatalf("Permute(%v, %d, %v, %d) = %s, not %s", l, n, to, most, got, want)
					}
				}
			}
		}
	}
}

// P4.4

func TestWhatIsPushedIsPopped(t *testing.T) {
	for _, l := range stacks() {
		for _, x := range stacks() {
			pushed, e := Push(l, len(l)+len(x), x...)
			if e != api.OK {
				t.Fatalf("Push(%v, %v) throws %d", l, x, e)
			}
			if got := told(Pop(pushed, len(x))); got != told(l, x, api.OK) {
				t.Errorf("Pop of Push(%v, %v) = %s", l, x, got)
			}
		}
	}
}

func TestWhatIsRolledAsOftenIsAsItWas(t *testing.T) {
	for _, l := range stacks() {
		for n := range len(l) {
			now := l
			for k := range n + 1 {
				if k > 0 && slices.Equal(now, l) {
					t.Errorf("%v, rolled by %d, is as it was by %d times", l, n, k)
				}
				now, _ = Roll(now, n)
			}
			if !slices.Equal(now, l) {
				t.Errorf("%v, rolled by %d, is %v", l, n, now)
			}
		}
	}
}

// P1 and R3

// calls does every call with these lists and numbers; all lists that are answered.
func calls(l, x []int, n, most int) [][]int {
	pushed, _ := Push(l, most, x...)
	left, popped, _ := Pop(l, n)
	Pick(l, n)
	roll, _ := Roll(l, n)
	some, _ := Permute(l, n, x, most)
	return [][]int{pushed, left, popped, roll, some}
}

// copies are lists of the same elements, those behind their ends too, in memory of their own.
func copies(some [][]int) [][]int {
	var out [][]int
	for _, l := range some {
		out = append(out, slices.Clone(l[:cap(l)]))
	}
	return out
}

// same: are lists, with what is behind their ends, the same as copies of them?
func same(some, were [][]int) bool {
	for k, l := range some {
		if !slices.Equal(l[:cap(l)], were[k]) {
			return false
		}
	}
	return true
}

func TestNoCallPanicsOrChangesWhatIsHandedIn(t *testing.T) {
	for _, l := range stacks() {
		for _, x := range append(stacks(), []int{0, 0, 1, 0}, []int{2, 1, 0}, []int{-1}, slices.Grow([]int{1, 0}, spare)) {
			were := copies([][]int{l, x})
			for _, n := range edges(len(l)) {
				for _, most := range edges(len(l) + len(x)) {
					calls(l, x, n, most)
				}
			}
			if !same([][]int{l, x}, were) {
				t.Fatalf("calls changed %v to %v", were, [][]int{l, x})
			}
		}
	}
}

func TestWhatIsAnsweredStaysAsItIs(t *testing.T) {
	l, x := stack(4), []int{1, 0, 1}
	for _, n := range edges(len(l)) {
		for _, most := range []int{least, 0, 4, 5, 6, 7, 9, greatest} {
			answered := append(calls(l, x, n, most), l, x)
			were := copies(answered)
			for _, a := range answered {
				for _, m := range []int{-1, 0, 1, 2, 3, 4, 5} {
					calls(a, []int{0, 0, 0}, m, 99)
					calls(a, []int{-7, -8, -9}, m, 99)
				}
			}
			if !same(answered, were) {
				t.Fatalf("by %d, %d: what was answered, %v, is %v now", n, most, were, answered)
			}
		}
	}
}

func TestTwoPushesOnOneList(t *testing.T) {
	l, _ := Push(nil, 9, 1, 2, 3)
	left, popped, _ := Pop(l, 2)
	a, _ := Push(left, 9, 7)
	b, _ := Push(left, 9, 8, 9)
	c, _ := Permute(l, 2, []int{1, 1, 1}, 9)
	if got := told(l, left, popped, a, b, c); got != told([]int{1, 2, 3}, []int{1}, []int{2, 3}, []int{1, 7}, []int{1, 8, 9}, []int{1, 3, 3, 3}) {
		t.Error(got)
	}
}
