package shape

import (
	"slices"
	"testing"

	"tenterhook/mem"
)

// stackOfCells are a stack's cells: both heads, n, and of each node the next one's number and a value.
func stackOfCells(head, free, n int, nodes ...int) []int {
	return append([]int{head, free, n}, nodes...)
}

// pair is a stack of 2 that holds 60 and 50, in the nodes 2 and 1; its other nodes are free, from 3 on.
func pair() []int {
	return stackOfCells(2*many+2, 3, 2, 0, 50, 1, 60, 4, 0, 5, 0, 6, 0, 7, 0, 8, 0, 9, 0, 0, 0)
}

// nodeAt is where in a stack at 2048 a node's first cell lies.
func nodeAt(node int) int { return 2048 + 24 + 16*(node-1) }

func list(from, to int) []int {
	var out []int
	for k := from; k <= to; k++ {
		out = append(out, k)
	}
	return out
}

// TestStackOf asks Stack of that stack with other cells put: the values, nothing with a false.
func TestStackOf(t *testing.T) {
	m := withCells(memory(5120), 2048, pair()...)
	for _, x := range []struct {
		puts []int
		want []int
		ok   bool
	}{
		{nil, []int{60, 50}, true},
		// The values: any numbers.
		{[]int{nodeAt(1) + 8, least, nodeAt(2) + 8, greatest}, []int{greatest, least}, true}, {[]int{nodeAt(2) + 8, -1}, []int{-1, 50}, true}, {[]int{nodeAt(1) + 8, 1<<31 + 1}, []int{60, 1<<31 + 1}, true},
		// The values of others are not told.
		{[]int{nodeAt(3) + 8, 70, nodeAt(9) + 8, 71}, []int{60, 50}, true},
		// n.
		{[]int{2064, 0}, nil, false}, {[]int{2064, 1}, nil, false}, {[]int{2064, 60}, []int{60, 50}, true}, {[]int{2064, 61}, nil, false}, {[]int{2064, 3}, []int{60, 50}, true},
		{[]int{2064, -1}, nil, false}, {[]int{2064, -2}, nil, false}, {[]int{2064, tag + 2}, nil, false}, {[]int{2064, many + 2}, nil, false}, {[]int{2064, least}, nil, false}, {[]int{2064, greatest}, nil, false}, {[]int{2064, least + 2}, nil, false},
		// A count of 0 with the number 0, and with another one.
		{[]int{2048, 0}, nil, true}, {[]int{2048, 1}, nil, false}, {[]int{2048, 2}, nil, false}, {[]int{2048, 9}, nil, false}, {[]int{2048, 10}, nil, false}, {[]int{2048, 65535}, nil, false}, {[]int{2048, 9 * tag}, nil, true}, {[]int{2048, 9*tag + 1}, nil, false},
		// A count of another number than the chain has.
		{[]int{2048, many + 2}, nil, false}, {[]int{2048, many + 1}, []int{50}, true}, {[]int{2048, 3*many + 2}, nil, false}, {[]int{2048, 2*many + 1}, nil, false}, {[]int{2048, 2 * many}, nil, false}, {[]int{2048, many}, nil, false},
		{[]int{2048, 65535*many + 2}, nil, false}, {[]int{2048, 2*many + 0}, nil, false},
		// A node's number in the head.
		{[]int{2048, many + 9}, []int{0}, true}, {[]int{2048, many + 10}, nil, false}, {[]int{2048, many + 11}, nil, false}, {[]int{2048, many + 65535}, nil, false}, {[]int{2048, 2*many + 10}, nil, false},
		// The number of the next one.
		{[]int{nodeAt(2), 2}, nil, false}, {[]int{nodeAt(2), 0}, nil, false}, {[]int{nodeAt(2), 9}, []int{60, 0}, true}, {[]int{nodeAt(2), 10}, nil, false}, {[]int{nodeAt(2), -1}, nil, false}, {[]int{nodeAt(2), least}, nil, false}, {[]int{nodeAt(2), greatest}, nil, false},
		// What is above its lowest digits is the number's, too: it has no tag and no count.
		{[]int{nodeAt(2), tag + 1}, nil, false}, {[]int{nodeAt(2), many + 1}, nil, false}, {[]int{nodeAt(2), least + 1}, nil, false},
		// The last one's: the chain goes on too long, or comes back.
		{[]int{nodeAt(1), 3}, nil, false}, {[]int{nodeAt(1), 9}, nil, false}, {[]int{nodeAt(1), 2}, nil, false}, {[]int{nodeAt(1), 1}, nil, false}, {[]int{nodeAt(1), 10}, nil, false}, {[]int{nodeAt(1), many}, nil, false}, {[]int{nodeAt(1), tag}, nil, false}, {[]int{nodeAt(1), least}, nil, false}, {[]int{nodeAt(1), -1}, nil, false},
		// As many as n, and one more, of nodes that are there.
		{[]int{2048, 2*many + 8}, []int{0, 0}, true}, {[]int{2048, 3*many + 7}, nil, false}, {[]int{2048, 3*many + 7, 2064, 3, nodeAt(9), 0}, []int{0, 0, 0}, true}, {[]int{2048, 3*many + 3, 2064, 3, nodeAt(3), 2}, []int{0, 60, 50}, true}, {[]int{2048, 3*many + 3, nodeAt(3), 2}, nil, false},
		// A tag, also with the highest digit.
		{[]int{2048, 7*tag + 2*many + 2}, []int{60, 50}, true}, {[]int{2048, least + 2*many + 2}, []int{60, 50}, true}, {[]int{2048, -tag + 2*many + 2}, []int{60, 50}, true}, {[]int{2048, -tag}, nil, true}, {[]int{2048, -tag + 2}, nil, false}, {[]int{2048, -1}, nil, false}, {[]int{2048, -tag + 3*many + 2}, nil, false},
		// Another free head.
		{[]int{2056, 0}, []int{60, 50}, true}, {[]int{2056, -1}, []int{60, 50}, true}, {[]int{2056, 2}, []int{60, 50}, true},
	} {
		n := putAt(m, x.puts...)
		if l, ok := Stack(n, 2048); ok != x.ok || !slices.Equal(l, x.want) {
			t.Errorf("%v: told %v %v, not %v %v", x.puts, l, ok, x.want, x.ok)
		}
		follow(t, n, 2048)
	}
}

// TestFreeOf asks Free likewise.
func TestFreeOf(t *testing.T) {
	m := withCells(memory(5120), 2048, pair()...)
	for _, x := range []struct {
		puts []int
		want []int
		ok   bool
	}{
		{nil, []int{3, 4, 5, 6, 7, 8, 9}, true},
		// n: with a lower one there are nodes too many, with a higher one all are still there.
		{[]int{2064, 0}, nil, false}, {[]int{2064, 1}, nil, false}, {[]int{2064, 3}, []int{3, 4, 5, 6, 7, 8, 9}, true}, {[]int{2064, 60}, []int{3, 4, 5, 6, 7, 8, 9}, true}, {[]int{2064, 61}, nil, false}, {[]int{2064, -1}, nil, false}, {[]int{2064, tag + 2}, nil, false}, {[]int{2064, least}, nil, false},
		{[]int{2064, 1, nodeAt(8), 0}, []int{3, 4, 5, 6, 7, 8}, true}, {[]int{2064, 0, nodeAt(7), 0}, nil, false},
		// The head's number.
		{[]int{2056, 0}, nil, true}, {[]int{2056, 1}, []int{1}, true}, {[]int{2056, 2}, []int{2, 1}, true}, {[]int{2056, 9}, []int{9}, true}, {[]int{2056, 10}, nil, false}, {[]int{2056, 65535}, nil, false}, {[]int{2056, 8}, []int{8, 9}, true},
		// What is above it: a tag, also with the highest digit, and what would be a count, is none of its number.
		{[]int{2056, 5*tag + 8}, []int{8, 9}, true}, {[]int{2056, least + 8}, []int{8, 9}, true}, {[]int{2056, -tag + 8}, []int{8, 9}, true}, {[]int{2056, many + 8}, []int{8, 9}, true}, {[]int{2056, -many}, nil, true}, {[]int{2056, least}, nil, true}, {[]int{2056, -many + 10}, nil, false}, {[]int{2056, -1}, nil, false},
		// A next number: one that ends it early, one that is no node's, one that was met.
		{[]int{nodeAt(3), 0}, []int{3}, true}, {[]int{nodeAt(5), 0}, []int{3, 4, 5}, true}, {[]int{nodeAt(3), 9}, []int{3, 9}, true}, {[]int{nodeAt(3), 10}, nil, false}, {[]int{nodeAt(3), -1}, nil, false}, {[]int{nodeAt(3), least}, nil, false}, {[]int{nodeAt(3), greatest}, nil, false}, {[]int{nodeAt(3), tag + 4}, nil, false}, {[]int{nodeAt(3), many + 4}, nil, false}, {[]int{nodeAt(3), tag}, nil, false},
		{[]int{nodeAt(3), 3}, nil, false}, {[]int{nodeAt(9), 9}, nil, false}, {[]int{nodeAt(9), 3}, nil, false}, {[]int{nodeAt(9), 6}, nil, false}, {[]int{nodeAt(4), 3}, nil, false},
		{[]int{nodeAt(9), 10}, nil, false}, {[]int{nodeAt(9), 11}, nil, false}, {[]int{nodeAt(9), -1}, nil, false}, {[]int{nodeAt(9), many}, nil, false}, {[]int{nodeAt(9), least}, nil, false},
		// All nodes, in another order.
		{[]int{nodeAt(9), 2}, []int{3, 4, 5, 6, 7, 8, 9, 2, 1}, true}, {[]int{nodeAt(9), 1}, []int{3, 4, 5, 6, 7, 8, 9, 1}, true}, {[]int{nodeAt(9), 2, nodeAt(1), 3}, nil, false}, {[]int{2056, 5, nodeAt(9), 4, nodeAt(4), 3, nodeAt(3), 0}, []int{5, 6, 7, 8, 9, 4, 3}, true},
		// What is held, and the values, are another thing.
		{[]int{2048, 0}, []int{3, 4, 5, 6, 7, 8, 9}, true}, {[]int{2048, -1}, []int{3, 4, 5, 6, 7, 8, 9}, true}, {[]int{2048, 9*many + 77}, []int{3, 4, 5, 6, 7, 8, 9}, true}, {[]int{nodeAt(1), 1, nodeAt(2), -1}, []int{3, 4, 5, 6, 7, 8, 9}, true}, {[]int{nodeAt(3) + 8, -1}, []int{3, 4, 5, 6, 7, 8, 9}, true},
	} {
		n := putAt(m, x.puts...)
		if l, ok := Free(n, 2048); ok != x.ok || !slices.Equal(l, x.want) {
			t.Errorf("%v: told %v %v, not %v %v", x.puts, l, ok, x.want, x.ok)
		}
		follow(t, n, 2048)
	}
}

// TestWholeStack asks Whole of that stack: what is held and what is free, and that no node is both.
func TestWholeStack(t *testing.T) {
	m := withCells(memory(5120), 2048, pair()...)
	for _, x := range []struct {
		puts               []int
		held, freed, whole bool
	}{
		{nil, true, true, true},
		{[]int{2048, many + 2}, false, true, false}, {[]int{2056, 10}, true, false, false}, {[]int{2048, many + 2, 2056, 10}, false, false, false}, {[]int{2064, 0}, false, false, false},
		// Nodes that are neither held nor free: someone has them.
		{[]int{2048, 0}, true, true, true}, {[]int{2056, 0}, true, true, true}, {[]int{2048, 0, 2056, 0}, true, true, true}, {[]int{2048, many + 1}, true, true, true}, {[]int{2056, 5}, true, true, true}, {[]int{nodeAt(5), 0}, true, true, true},
		// A node that both meet: the first one of either, or the last one.
		{[]int{2056, 1}, true, true, false}, {[]int{2056, 2}, true, true, false}, {[]int{nodeAt(9), 1}, true, true, false}, {[]int{nodeAt(9), 2}, true, true, false}, {[]int{nodeAt(3), 1}, true, true, false},
		{[]int{nodeAt(2), 9}, true, true, false}, {[]int{2048, many + 9}, true, true, false}, {[]int{2048, 2*many + 8}, true, true, false}, {[]int{2048, 2*many + 8, 2056, 0}, true, true, true}, {[]int{2048, 2*many + 8, nodeAt(7), 0}, true, true, true}, {[]int{2048, 2*many + 8, nodeAt(7), 2}, true, true, true},
		{[]int{2048, 2 * many, 2056, 2}, false, true, false}, {[]int{2056, 2, 2048, 0}, true, true, true},
	} {
		got := follow(t, putAt(m, x.puts...), 2048)
		if got.isStack != x.held || got.isFree != x.freed || got.whole[0] != x.whole {
			t.Errorf("%v: %v %v %v", x.puts, got.isStack, got.isFree, got.whole[0])
		}
	}
}

// TestStackSizes asks of stacks of each n as lib lays them, and of full ones, and of those with one more.
func TestStackSizes(t *testing.T) {
	for n := 1; n <= 60; n++ {
		for _, at := range []int{2048, 2504, 4096 - 24 - 16*(n+7)} {
			m := lay(0, memory(5120), at, n)
			got := follow(t, m, at)
			if !got.isStack || len(got.stack) != 0 || !slices.Equal(got.free, list(1, n+7)) || !got.isFree || !got.whole[0] {
				t.Fatalf("a stack of %d at %d: %+v", n, at, got)
			}
			// All nodes of the chain are n + 7: the last n of them are as many as may be held.
			full := putAt(m, at, n*many+8, at+8, 0)
			if got := follow(t, full, at); !slices.Equal(got.stack, make([]int, n)) || !got.isStack || !got.whole[0] {
				t.Fatalf("a full stack of %d at %d: %+v", n, at, got)
			}
			more := putAt(m, at, (n+1)*many+7, at+8, 0)
			if got := follow(t, more, at); got.isStack || got.whole[0] || !got.isFree {
				t.Fatalf("a stack of %d with one more at %d: %+v", n, at, got)
			}
			// One node more than there are.
			behind := putAt(m, at+24+16*(n+6), n+8)
			if got := follow(t, behind, at); got.isFree || got.whole[0] || !got.isStack {
				t.Fatalf("a stack of %d with a node behind at %d: %+v", n, at, got)
			}
		}
	}
}

// TestStackAllChains asks of all small mixes of heads, and of the first three nodes' next numbers.
func TestStackAllChains(t *testing.T) {
	m := withCells(memory(5120), 2048, pair()...)
	next := []int{0, 1, 2, 3, 9, 10, -1}
	heads := []int{0, 1, 2, 3, many + 1, many + 2, 2*many + 1, 2*many + 2, 2*many + 3, 3*many + 3, 2*many + 10}
	wholes := 0
	for k := range len(next) * len(next) * len(next) {
		n := putAt(m, nodeAt(1), next[k%7], nodeAt(2), next[k/7%7], nodeAt(3), next[k/49])
		for _, head := range heads {
			for _, free := range []int{0, 1, 2, 3, 4, 10} {
				if follow(t, withCells(n, 2048, head, free), 2048).whole[0] {
					wholes++
				}
			}
		}
	}
	if wholes < 100 {
		t.Errorf("only %d are whole", wholes)
	}
}

// TestStackMixes asks of stacks whose nodes are linked in any order, some of them with one fault.
func TestStackMixes(t *testing.T) {
	x := mix(1)
	counts := [2]int{}
	for range 4000 {
		n := x.of(1, 2, 3, 8, 30, 60)
		at := x.of(2048, 2504, 4096-24-16*(n+7), 0, 8, 4000)
		got := follow(t, mixedStack(&x, n, at), at)
		if got.whole[0] {
			counts[1]++
		} else {
			counts[0]++
		}
	}
	if min(counts[0], counts[1]) < 500 {
		t.Errorf("not whole, and whole: %v", counts)
	}
}

// mixedStack is a memory with a stack of n whose nodes are held, free, or neither.
func mixedStack(x *mix, n, at int) []byte {
	order := list(1, n+7)
	for k := range order {
		i := k + x.below(len(order)-k)
		order[k], order[i] = order[i], order[k]
	}
	held := x.below(n + 1)
	free := held + x.below(n+8-held)
	m := putAt(memory(6000), at+16, n)
	link := func(headAt, head int, l []int) {
		for _, node := range slices.Backward(l) {
			m = putAt(m, at+24+16*(node-1), head&65535)
			head = head&^65535 | node
		}
		m = putAt(m, headAt, head)
	}
	tags := []int{0, tag, least, -tag, 77 * tag}
	link(at, x.of(tags...)+held*many, order[:held])
	link(at+8, x.of(tags...), order[free:])
	if x.below(2) == 0 {
		m = putAt(m, at+x.of(0, 8, 16, 24+16*x.below(n+7)), x.of(0, 1, n, n+7, n+8, order[0], order[n], -1, held*many+order[n], (held+1)*many+order[0], many+order[0]))
	}
	return m
}

// TestStackCut asks of memories that end within a stack, just behind it, and farther: only the cells that are asked for need to be there.
func TestStackCut(t *testing.T) {
	m := withCells(memory(9000), 2048, pair()...)
	for bytes := 2048; bytes <= 2048+8*len(pair())+16; bytes++ {
		cut := m[:bytes]
		got := follow(t, cut, 2048)
		// The nodes 2 and 1 end 56 bytes behind the place; the last node's first cell is behind 24 + 16 * 8 bytes.
		if held, freed := bytes >= 2048+56, bytes >= 2048+160; got.isStack != held || got.isFree != freed || got.whole[0] != freed {
			t.Fatalf("%d bytes: %+v", bytes-2048, got)
		}
	}
	empty := putAt(m, 2048, 0)
	for _, bytes := range []int{0, 8, 16, 23, 24, 25} {
		if got := follow(t, empty[:2048+bytes], 2048); got.isStack != (bytes >= 24) || got.isFree || got.whole[0] {
			t.Errorf("%d bytes: %+v", bytes, got)
		}
	}
	last := withCells(memory(9000), 5120, pair()...)
	for _, x := range []struct {
		bytes int
		ok    bool
	}{{9000, true}, {5120 + 168, true}, {5120 + 160, true}, {5120 + 159, false}, {5120, false}, {4096, false}, {0, false}} {
		if got := follow(t, last[:x.bytes], 5120); got.whole[0] != x.ok || got.isFree != x.ok {
			t.Errorf("%d bytes, at 5120: %+v", x.bytes, got)
		}
	}
	// One place farther nothing is told, however much memory there is.
	if got := follow(t, withCells(memory(9000), 5128, pair()...), 5128); differ(got, told{}) != "" {
		t.Errorf("at 5128: %+v", got)
	}
	if l, ok := Stack(mem.New(5120), 2048); ok || l != nil {
		t.Errorf("where no stack lies: %v", l)
	}
}
