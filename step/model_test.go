package step

import (
	"slices"

	"tenterhook/api"
	"tenterhook/dict"
	"tenterhook/guard"
	"tenterhook/mem"
	"tenterhook/num"
	"tenterhook/op"
	"tenterhook/pic"
	"tenterhook/pure"
	"tenterhook/ret"
)

// machine does what the document tells, operation by operation: it takes and lays cell by cell, and what is thrown is a panic that ends the step.
type machine struct {
	p   Prog
	s   State
	r   Res
	lib bool
}

func (v *machine) must(e api.Throw) {
	if e != api.OK {
		panic(e)
	}
}

func (v *machine) mustBe(ok bool, e api.Throw) {
	if !ok {
		panic(e)
	}
}

// pop takes the top, without touching what the list shares.
func (v *machine) pop() int {
	d := v.s.T.D
	v.mustBe(len(d) > 0, -4)
	v.s.T.D = slices.Clone(d[:len(d)-1])
	return d[len(d)-1]
}

// popped are the last n cells, in order.
func (v *machine) popped(n int) []int {
	out := make([]int, n)
	for k := range n {
		out[n-1-k] = v.pop()
	}
	return out
}

func (v *machine) push(x ...int) {
	v.mustBe(len(v.s.T.D)+len(x) <= 64, -3)
	v.s.T.D = append(slices.Clone(v.s.T.D), x...)
}

func (v *machine) may(at, n int, write bool) {
	v.mustBe(guard.May(guard.Who{Task: v.s.Me, Lib: v.lib}, at, n, write), -9)
}

func (v *machine) put(m []byte, e api.Throw) {
	v.must(e)
	v.s.M = m
}

func (v *machine) at(t ret.Task, e api.Throw) {
	v.must(e)
	v.s.T = t
}

func (v *machine) told(s string) {
	v.mustBe(len(v.s.Out)+len(s) <= 1000, -8)
	v.s.Out += s
}

func (v *machine) branch(to int) {
	v.mustBe(to >= 0 && to < 4096, -9)
	v.s.T.P.At = to
}

func modelLib(p Prog, th int) bool { return 0 <= th && th < p.Lib }

func modelUser(me int) int {
	if me < 0 || me > 7 {
		me = 7
	}
	return 4096 + me*128
}

// modelThrow is P14.2.
func modelThrow(p Prog, s State, e int) (State, Res) {
	if !ret.Sane(s.T) {
		s.T = ret.New(api.Place{})
	}
	if e == 0 {
		return s, Res{}
	}
	t, caught := ret.Throw(s.T, e)
	switch {
	case modelLib(p, t.P.Th):
		return s, Res{Died, e, 0}
	case !caught:
		s.T = t
		return s, Res{Died, e, 0}
	}
	s.T = t
	return s, Res{Goes, 0, 0}
}

// modelStep is P14.3.
func modelStep(p Prog, s State) (State, Res) {
	if !ret.Sane(s.T) {
		s.T = ret.New(api.Place{})
	}
	th, k := s.T.P.Th, s.T.P.At
	if th >= len(p.Threads) || k >= len(p.Threads[th]) || k == 4095 {
		return modelThrow(p, s, -9)
	}
	s.T.P.At = k + 1
	v := &machine{p: p, s: s, lib: modelLib(p, th)}
	if e := v.run(p.Threads[th][k]); e != 0 {
		return modelThrow(p, s, int(e))
	}
	return v.s, v.r
}

func (v *machine) run(i api.Ins) (e api.Throw) {
	defer func() {
		switch x := recover().(type) {
		case nil:
		case api.Throw:
			e = x
		default:
			panic(x)
		}
	}()
	v.do(i)
	return 0
}

func (v *machine) do(i api.Ins) {
	name := op.Name(i.Op)
	v.mustBe(name != "", -21)
	v.mustBe(len(v.s.T.D) >= op.Needs(i.Op), -4)
	switch op.Group(i.Op) {
	case 0:
		v.lead(name, i.Arg)
	case 1:
		d, e := pure.Do(i.Op, v.s.T.D)
		v.must(e)
		v.s.T.D = d
	case 2:
		v.memory(name)
	case 3:
		v.output(name)
	case 4, 5:
		v.pictures(name)
	case 6:
		v.tasks(name)
	case 7:
		v.r = Res{Asks, i.Op, i.Arg}
	}
}

func (v *machine) lead(name string, arg int) {
	t := &v.s.T
	switch name {
	case "(LIT)":
		v.push(arg)
	case "(BRANCH)":
		v.branch(arg)
	case "(0BRANCH)":
		if v.pop() == 0 {
			v.branch(arg)
		}
	case "(CALL)":
		v.at(ret.Enter(*t, arg))
	case "EXIT":
		left, end, e := ret.Leave(*t)
		v.at(left, e)
		if end {
			v.r.Kind = Ended
		} else {
			v.mustBe(v.lib || !modelLib(v.p, left.P.Th), -9)
		}
	case "(DO)", "(?DO)":
		x := v.popped(2)
		if name == "(?DO)" && x[0] == x[1] {
			v.branch(arg)
		} else {
			v.at(ret.Begin(*t, x[0], x[1]))
		}
	case "(LOOP)", "(+LOOP)":
		n := 1
		if name == "(+LOOP)" {
			n = v.pop()
		}
		next, end, e := ret.Next(*t, n)
		v.at(next, e)
		if !end {
			v.branch(arg)
		}
	case "UNLOOP":
		v.at(ret.Drop(*t))
	case "I", "R@", "J":
		k := 0
		if name == "J" {
			k = 1
		}
		x, e := ret.Index(*t, k)
		v.must(e)
		v.push(x)
	case ">R":
		x := v.pop()
		v.at(ret.Keep(*t, x))
	case "R>":
		left, x, e := ret.Back(*t)
		v.at(left, e)
		v.push(x)
	case "THROW":
		v.must(api.Throw(v.pop()))
	case "EXECUTE":
		v.execute(v.pop())
	case "CATCH":
		xt := v.pop()
		v.mustBe(xt >= 0 && xt < len(v.p.Words) && v.p.Words[xt].Kind == dict.Colon, -13)
		v.at(ret.Catch(*t, dict.Addr(v.p.Words[xt].P)))
	}
}

func (v *machine) execute(xt int) {
	_, ok := dict.Code(v.p.Words, xt)
	v.mustBe(ok, -13)
	w := v.p.Words[xt]
	switch w.Kind {
	case dict.Prim:
		v.mustBe(op.Name(w.Val) != "EXECUTE", -21)
		v.do(api.Ins{Op: w.Val})
	case dict.Var, dict.Con, dict.Does:
		v.push(w.Val)
	}
	if w.Kind == dict.Colon || w.Kind == dict.Does {
		v.at(ret.Enter(v.s.T, dict.Addr(w.P)))
	}
}

func (v *machine) memory(name string) {
	m := v.s.M
	switch name {
	case "@":
		at := v.pop()
		v.may(at, 8, false)
		x, e := mem.Get(m, at)
		v.must(e)
		v.push(x)
	case "!":
		x := v.popped(2)
		v.may(x[1], 8, true)
		v.put(mem.Put(m, x[1], x[0]))
	case "C@":
		at := v.pop()
		v.may(at, 1, false)
		x, e := mem.Byte(m, at)
		v.must(e)
		v.push(x)
	case "C!":
		x := v.popped(2)
		v.may(x[1], 1, true)
		v.put(mem.PutByte(m, x[1], x[0]))
	case "+!":
		x := v.popped(2)
		v.may(x[1], 8, false)
		old, e := mem.Get(m, x[1])
		v.must(e)
		v.may(x[1], 8, true)
		v.put(mem.Put(m, x[1], old+x[0]))
	case "FILL":
		x := v.popped(3)
		v.may(x[0], x[1], true)
		v.put(mem.Fill(m, x[0], x[1], x[2]))
	case "MOVE":
		x := v.popped(3)
		v.may(x[0], x[2], false)
		v.may(x[1], x[2], true)
		v.put(mem.Move(m, x[0], x[1], x[2]))
	case "CAS":
		x := v.popped(3)
		v.may(x[0], 8, true)
		m, flag, e := mem.Swap(m, x[0], x[1], x[2])
		v.put(m, e)
		v.push(flag)
	}
}

func (v *machine) output(name string) {
	switch name {
	case "EMIT":
		v.told(string([]byte{byte(uint(v.pop()) % 256)}))
	case "TYPE":
		x := v.popped(2)
		v.may(x[0], x[1], false)
		s, e := mem.Text(v.s.M, x[0], x[1])
		v.must(e)
		v.told(s)
	case ".", "U.":
		n := v.pop()
		base, e := pic.Base(v.s.M, modelUser(v.s.Me))
		v.must(e)
		if name == "." {
			v.told(num.Text(n, base) + " ")
		} else {
			v.told(num.UText(n, base) + " ")
		}
	case "CR":
		v.told("\x0a")
	case "SPACE":
		v.told("\x20")
	}
}

func (v *machine) pictures(name string) {
	m, user := v.s.M, modelUser(v.s.Me)
	switch name {
	case "<#":
		v.put(pic.Begin(m, user))
	case "#", "#S":
		x := v.popped(2)
		d, e := api.Dbl{Lo: x[0], Hi: x[1]}, api.OK
		if name == "#" {
			m, d, e = pic.Digit(m, user, d)
		} else {
			m, d, e = pic.All(m, user, d)
		}
		v.put(m, e)
		v.push(d.Lo, d.Hi)
	case "HOLD":
		v.put(pic.Hold(m, user, v.pop()))
	case "SIGN":
		v.put(pic.Sign(m, user, v.pop()))
	case "#>":
		v.popped(2)
		at, n, e := pic.End(m, user)
		v.must(e)
		v.push(at, n)
	case "BASE":
		v.push(user)
	case "DECIMAL":
		v.put(mem.Put(m, user, 10))
	case "HEX":
		v.put(mem.Put(m, user, 16))
	}
}

func (v *machine) tasks(name string) {
	switch name {
	case "ME":
		v.push(v.s.Me)
	case "TICKS":
		v.push(v.s.Tick)
	case "PAUSE":
		v.r.Kind = Paused
	case "SLEEP":
		n := v.pop()
		v.r = Res{Sleeps, min(n, 1<<30), 0}
		if n < 1 {
			v.r.N = 1
		}
	case "BYE":
		v.r.Kind = Ended
	case "NOTE":
		x := v.popped(3)
		v.mustBe(v.lib || v.s.Me == -1, -21)
		v.mustBe(len(v.s.Hist) < 400, -8)
		v.s.Hist = append(slices.Clone(v.s.Hist), api.Event{Task: v.s.Me, Kind: x[2], At: x[1], Val: x[0]})
	}
}
