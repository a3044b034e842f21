package lin

import "tenterhook/hist"

// item is what lies in the model's object: a value, and what lies behind it.
type item struct {
	v    int
	next *item
}

// object is a chain of items. The one that was put first is its first one.
type object struct {
	first *item
	many  int
}

// holding is an object that holds a list.
func holding(l []int) *object {
	var x object
	for _, v := range l {
		x.lay(v)
	}
	return &x
}

// list is what the object holds.
func (x *object) list() []int {
	var out []int
	for p := x.first; p != nil; p = p.next {
		out = append(out, p.v)
	}
	return out
}

func (x *object) lay(v int) {
	p := &x.first
	for *p != nil {
		p = &(*p).next
	}
	*p = &item{v: v}
	x.many++
}

// take takes one item away that is there: the first one, or the last one.
func (x *object) take(first bool) int {
	p := &x.first
	for !first && (*p).next != nil {
		p = &(*p).next
	}
	v := (*p).v
	*p = (*p).next
	x.many--
	return v
}

// does does an operation, of room n, and tells whether what it told is that.
func (x *object) does(o hist.Op, n int) bool {
	if n > 1000 {
		n = 1000
	}
	ok, res := false, o.Res
	switch o.Kind {
	case 0, 2:
		if v := o.Arg; x.many < n {
			if ok = true; o.Kind == 2 {
				v = (v%(1<<32) + 1<<32) % (1 << 32)
			}
			x.lay(v)
		}
	case 1, 3:
		if x.many > 0 {
			ok, res = true, x.take(o.Kind == 3)
		}
	default:
		return false
	}
	return o.To < 0 || o.Ok == ok && (!ok || o.Res == res)
}

// modelApply is what the document tells of Apply.
func modelApply(l []int, o hist.Op, n int) ([]int, bool) {
	x := holding(l)
	could := x.does(o, n)
	return x.list(), could
}

// modelAfter is what the document tells of After.
func modelAfter(l []hist.Op, done []bool, i int) bool {
	open := map[int]bool{}
	for k := range l {
		open[k] = k >= len(done) || !done[k]
	}
	ok := open[i]
	for k := range l {
		if open[k] && l[k].To > -1 && ok && l[k].To < l[i].From {
			ok = false
		}
	}
	return ok
}

// modelLin is what the document tells of Lin: each order is looked at by itself, from its beginning.
func modelLin(l []hist.Op, n int) int {
	if len(l) > 8 {
		return 2
	}
	if orders(l, n) > 0 {
		return 1
	}
	return 0
}

// orders is in how many orders the operations could have been done.
func orders(l []hist.Op, n int) int {
	many := 0
	for _, order := range rows(len(l)) {
		if could(l, order, n) {
			many++
		}
	}
	return many
}

// could tells whether the operations could have been done in that order, and those that it does not have not at all.
func could(l []hist.Op, order []int, n int) bool {
	at := make([]int, len(l))
	for k := range at {
		at[k] = len(l) // behind all
	}
	for turn, i := range order {
		at[i] = turn
	}
	for k, o := range l {
		if o.To < 0 {
			continue
		}
		if at[k] == len(l) {
			return false
		}
		for i, u := range l { // u would have been done ahead of o, or with it, though o had returned
			if at[i] <= at[k] && o.To < u.From {
				return false
			}
		}
	}
	var x object
	for _, i := range order {
		if !x.does(l[i], n) {
			return false
		}
	}
	return true
}

// met keeps rows, as they are always the same.
var met = map[int][][]int{}

// rows are all rows of some of the numbers below n, each of them once at most.
func rows(n int) [][]int {
	if met[n] != nil {
		return met[n]
	}
	out := [][]int{{}}
	for k := 0; k < len(out); k++ {
		var has [8]bool
		for _, i := range out[k] {
			has[i] = true
		}
		for i := range n {
			if !has[i] {
				out = append(out, append(out[k][:len(out[k]):len(out[k])], i))
			}
		}
	}
	met[n] = out
	return out
}
