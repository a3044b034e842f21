package shape

import (
	"tenterhook/api"
	"tenterhook/mem"
)

// The cells of a stack and of a ring: freeCell is the stack's free head, tailCell the ring's tail, limitCell the n of both, and nodes or slots are behind headCells cells. A node has nodeCells cells, the value behind the next one's number, and firstNode is the number of the first one; the number 0 ends a chain.
const (
	headCell  = 0
	freeCell  = 1
	tailCell  = 1
	limitCell = 2
	headCells = 3
	nodeCells = 2
	firstNode = 1
	noNode    = 0
)

// The cells of a lock and of an event.
const (
	nextCell    = 0
	servedCell  = 1
	signalsCell = 0
)

// A stack or a ring is of mostItems at most; a stack has spareNodes nodes more than it may hold; a ring's head and tail are mostPosition at most.
const (
	mostItems    = 60
	spareNodes   = 7
	mostPosition = 1 << 40
)

// A part of a head has partBits digits of two; a slot's value has valueBits, and what is above them tells the round and whether it is laid.
const (
	partBits  = 16
	valueBits = 32
)

// object is one that lies in a memory, at a place.
type object struct {
	m  []byte
	at int
}

// met are the numbers of the nodes that were met.
type met map[int]struct{}

// meet: is a node met for the first time?
func (l met) meet(node int) bool {
	_, again := l[node]
	l[node] = struct{}{}
	return !again
}

// cell is an object's cell k; false: it is not there.
func (o object) cell(k int) (int, bool) {
	// Asked first, so that the place of a cell does not go round.
	if !within(o.at, 0, api.MemSize) {
		return 0, false
	}
	x, e := mem.Get(o.m, o.at+k*api.CellSize)
	return x, e == api.OK
}

// limit is the n of a stack or of a ring.
func (o object) limit() (int, bool) {
	n, ok := o.cell(limitCell)
	return n, ok && within(n, 1, mostItems)
}

// held is what a stack holds, in nodes none of which was met.
func (o object) held(seen met) ([]int, bool) {
	n, limited := o.limit()
	head, there := o.cell(headCell)
	if !limited || !there || count(head) > n {
		return nil, false
	}
	// As a chain ends with its first 0, it is to be just as long as the head tells.
	nodes, ok := o.chain(number(head), n, seen)
	if !ok || len(nodes) != count(head) {
		return nil, false
	}
	return o.values(nodes)
}

// free are a stack's free nodes, none of which was met.
func (o object) free(seen met) ([]int, bool) {
	n, limited := o.limit()
	head, there := o.cell(freeCell)
	if !limited || !there {
		return nil, false
	}
	return o.chain(number(head), n, seen)
}

// apart: are what a stack holds and its free nodes as they may be, and no node both? What the first of them met is met when the second one comes to it.
func (o object) apart() bool {
	seen := met{}
	_, held := o.held(seen)
	_, free := o.free(seen)
	return held && free
}

// chain are the nodes from one on, each of which tells the next one, of a stack of n; false: one may not be, or was met.
func (o object) chain(node, n int, seen met) ([]int, bool) {
	var out []int
	for node != noNode {
		if !within(node, firstNode, n+spareNodes) || !seen.meet(node) {
			return nil, false
		}
		out = append(out, node)
		next, ok := o.cell(place(node))
		if !ok {
			return nil, false
		}
		node = next
	}
	return out, true
}

// values are those of these nodes.
func (o object) values(nodes []int) ([]int, bool) {
	var out []int
	for _, node := range nodes {
		x, ok := o.cell(place(node) + 1)
		if !ok {
			return nil, false
		}
		out = append(out, x)
	}
	return out, true
}

// ends are a ring's n, its head and its tail.
func (o object) ends() (n, head, tail int, ok bool) {
	n, limited := o.limit()
	head, headOK := o.cell(headCell)
	tail, tailOK := o.cell(tailCell)
	ok = limited && headOK && tailOK && within(head, 0, mostPosition) && within(tail, 0, mostPosition)
	return n, head, tail, ok
}

// first is the position of a ring's first value, if it holds one. Who takes a value tells it by the head afterwards, so that this may be one behind.
func (o object) first(n, head int) (int, bool) {
	state, _, ok := o.slot(n, head)
	if state >= stateOf(head/n+1) {
		return head + 1, ok
	}
	return head, ok
}

// laid are a ring's values from a position on.
func (o object) laid(n, from int) ([]int, bool) {
	var out []int
	for p := from; p < from+n; p++ {
		state, x, ok := o.slot(n, p)
		if !ok {
			return nil, false
		}
		if state != stateOf(p/n)+1 {
			break
		}
		out = append(out, x)
	}
	return out, true
}

// slot is the slot of a position: its state, and its value. Both are without a sign: a round may reach the cell's highest digit.
func (o object) slot(n, p int) (state, value int, ok bool) {
	x, ok := o.cell(headCells + p%n)
	return int(uint64(x) >> valueBits), x & (1<<valueBits - 1), ok
}

// stateOf is the state of a slot that is to be laid in a round; that of one that is laid is one more.
func stateOf(round int) int { return 2 * round }

// place is the cell with which a node begins.
func place(node int) int { return headCells + nodeCells*(node-firstNode) }

// number and count are parts of a head.
func number(head int) int { return head & (1<<partBits - 1) }
func count(head int) int  { return head >> partBits & (1<<partBits - 1) }

func within(n, least, most int) bool { return n >= least && n <= most }
