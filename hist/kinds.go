package hist

import "tenterhook/api"

// What events of a kind are.
const (
	nothing = iota
	call
	back
)

// When an operation that has returned could be done.
const (
	never   = iota
	flagged // just if the return's value is not 0
	always
)

// row is what follows what, for one kind: what its events are, and of which operation; and, of returns, the kind of the call that they follow, when the operation could be done, and whether the value is its result.
type row struct {
	is, op, follows, done int
	result                bool
}

// rows has a row under each kind of events. There is no kind 0.
var rows = [...]row{
	1:  {is: call, op: Push},
	2:  {is: back, op: Push, follows: 1, done: flagged},
	3:  {is: call, op: Pop},
	4:  {is: back, op: Pop, follows: 3, done: always, result: true},
	5:  {is: back, op: Pop, follows: 3, done: never},
	6:  {is: call, op: Enq},
	7:  {is: back, op: Enq, follows: 6, done: flagged},
	8:  {is: call, op: Deq},
	9:  {is: back, op: Deq, follows: 8, done: always, result: true},
	10: {is: back, op: Deq, follows: 8, done: never},
	11: {is: call, op: Acq},
	12: {is: back, op: Acq, follows: 11, done: always, result: true},
	13: {is: call, op: Rel},
	14: {is: back, op: Rel, follows: 13, done: always},
	15: {is: call, op: Wait},
	16: {is: back, op: Wait, follows: 15, done: always},
	17: {is: call, op: Signal},
	18: {is: back, op: Signal, follows: 17, done: always},
}

// look is the row of an event's kind; of a number that is no kind it is that of nothing.
func look(e api.Event) row {
	if e.Kind < 0 || e.Kind >= len(rows) {
		return row{is: nothing}
	}
	return rows[e.Kind]
}

// calls tells whether an event of the row is a call of the operation.
func (r row) calls(op int) bool { return r.is == call && r.op == op }

// returns tells whether an event of the row is a return of the operation.
func (r row) returns(op int) bool { return r.is == back && r.op == op }

// holdsValues tells whether the operation is one of stacks or rings.
func (r row) holdsValues() bool { return r.op <= Deq }
