package shape

import (
	"math/bits"
	"slices"
)

// The model reads what lies in a memory as the document tells it, one promise behind the other. It walks a stack's nodes by their count and looks for each in the list of those before; and it takes a slot's parts one by one.

// read is a cell, and whether there is one.
func read(m []byte, base, at int) (int, bool) {
	if base < 0 || base > 5120 || base%8 != 0 || base+at+8 > len(m) {
		return 0, false
	}
	return cell(m, base+at), true
}

func readLimit(m []byte, at int) (int, bool) {
	n, ok := read(m, at, 16)
	return n, ok && n >= 1 && n <= 60
}

func modelNodes(m []byte, at int) ([]int, bool) {
	n, ok := readLimit(m, at)
	head, is := read(m, at, 0)
	if !ok || !is {
		return nil, false
	}
	number, count := int(uint16(head)), int(uint16(uint64(head)>>16))
	if count > n {
		return nil, false
	}
	var nodes []int
	for range count {
		if number < 1 || number > n+7 || slices.Contains(nodes, number) {
			return nil, false
		}
		nodes = append(nodes, number)
		number, ok = read(m, at, 24+16*(number-1))
		if !ok {
			return nil, false
		}
	}
	return nodes, number == 0
}

func modelStack(m []byte, at int) ([]int, bool) {
	nodes, ok := modelNodes(m, at)
	if !ok {
		return nil, false
	}
	var out []int
	for _, node := range nodes {
		x, is := read(m, at, 32+16*(node-1))
		if !is {
			return nil, false
		}
		out = append(out, x)
	}
	return out, true
}

func modelFree(m []byte, at int) ([]int, bool) {
	n, ok := readLimit(m, at)
	head, is := read(m, at, 8)
	if !ok || !is {
		return nil, false
	}
	var out []int
	for number := int(uint16(head)); number != 0; {
		if number < 1 || number > n+7 || slices.Contains(out, number) {
			return nil, false
		}
		out = append(out, number)
		number, ok = read(m, at, 24+16*(number-1))
		if !ok {
			return nil, false
		}
	}
	return out, true
}

// modelSlot is the slot of a position: its round, whether it is laid, and its value.
func modelSlot(m []byte, at, n, p int) (inRound int, isLaid bool, value int, ok bool) {
	x, ok := read(m, at, 24+8*(p%n))
	return int(uint64(x) / round), uint64(x)/laid%2 == 1, int(uint32(x)), ok
}

func modelRing(m []byte, at int) ([]int, bool) {
	n, ok := readLimit(m, at)
	head, is := read(m, at, 0)
	tail, too := read(m, at, 8)
	if !ok || !is || !too || head < 0 || head > 1<<40 || tail < 0 || tail > 1<<40 {
		return nil, false
	}
	a := head
	inRound, _, _, ok := modelSlot(m, at, n, head)
	if !ok {
		return nil, false
	}
	if inRound > head/n {
		a++
	}
	var out []int
	for len(out) < n {
		p := a + len(out)
		inRound, isLaid, value, ok := modelSlot(m, at, n, p)
		if !ok {
			return nil, false
		}
		if !isLaid || inRound != p/n {
			break
		}
		out = append(out, value)
	}
	if behind := a + len(out) - tail; behind != 0 && behind != 1 {
		return nil, false
	}
	return out, true
}

// model is all that is to be told of a place.
func model(m []byte, at int) told {
	var want told
	want.stack, want.isStack = modelStack(m, at)
	want.free, want.isFree = modelFree(m, at)
	want.ring, want.isRing = modelRing(m, at)
	first, is := read(m, at, 0)
	second, too := read(m, at, 8)
	if is && too && second >= 0 && second <= first {
		want.next, want.served, want.isLock = first, second, true
	}
	if is && first >= 0 {
		want.signals, want.isEvent = first, true
	}
	nodes, _ := modelNodes(m, at)
	want.whole = [4]bool{want.isStack && want.isFree && distinct(slices.Concat(nodes, want.free)), want.isRing, want.isLock, want.isEvent}
	return want
}

// distinct: is each of these numbers, which are 1 to 67, there once? One digit of two stands for each.
func distinct(l []int) bool {
	var low, high uint64
	for _, x := range l {
		if x < 64 {
			low |= 1 << x
		} else {
			high |= 1 << (x - 64)
		}
	}
	return bits.OnesCount64(low)+bits.OnesCount64(high) == len(l)
}
