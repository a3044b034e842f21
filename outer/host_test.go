package outer

import (
	"slices"
	"strings"
	"testing"

	"tenterhook/api"
	"tenterhook/dict"
	"tenterhook/flow"
	"tenterhook/op"
	"tenterhook/ret"
	"tenterhook/scan"
)

// asks is a system, and a text, behind a row that asks the host for an operation, with these cells on the stack.
func asks(t *testing.T, s Sys, text string, o int, d ...int) (Sys, scan.Src, api.Throw) {
	t.Helper()
	return checkDo(t, s, scan.Src{S: text}, code(lits(d...), ins(o)))
}

// refused holds what is asked for, and throws, against the system and the text as they were, but for the cells.
func refused(t *testing.T, s Sys, text string, want api.Throw, o int, d ...int) {
	t.Helper()
	got, to, e := asks(t, s, text, o, d...)
	s.S.T = ret.Task{D: slices.Concat(s.S.T.D, d), R: []int{-2}}
	if x := differ(got, s); x != "" || to != (scan.Src{S: text}) || e != want {
		t.Errorf("%s of %v, %.40q: differs in [%s]; %d, %d, want %d", op.Name(o), d, text, x, to.In, int(e), int(want))
	}
}

// branch is a row that goes to a place of its thread.
func branch(to int) []api.Ins { return []api.Ins{{Op: op.Branch, Arg: to}} }

// P15.2

func TestDo(t *testing.T) {
	s := after(t, ": five 5 ; : bad 1 2 0 / ;")
	const xtFive, xtBad = 102, 103
	for k, x := range []struct {
		l []api.Ins
		d []int
		e api.Throw
	}{
		{nil, nil, 0}, {[]api.Ins{}, nil, 0}, {lits(5, 6), []int{5, 6}, 0}, {code(lits(5, 2), ins(op.Plus)), []int{7}, 0}, {code(lits(least, greatest), ins(op.Plus)), []int{-1}, 0}, {code(call(0), call(0)), []int{5, 5}, 0}, {code(lits(1), call(1)), []int{1, 1, 2, 0}, -10},
		{code(lits(1), ins(op.Exit), lits(2)), []int{1}, 0}, {code(lits(1), ins(op.Bye), lits(2)), []int{1}, 0}, {code(lits(1), ins(op.Pause), lits(2)), []int{1, 2}, 0}, {code(lits(1, 1<<40), ins(op.Sleep), lits(2)), []int{1, 2}, 0}, {code(lits(-9), ins(op.Sleep)), nil, 0},
		{ins(op.Drop), nil, -4}, {ins(111), nil, -21}, {ins(-1), nil, -21}, {ins(least), nil, -21}, {ins(greatest), nil, -21}, {branch(-1), nil, -9}, {branch(2), nil, -9}, {branch(1), nil, 0}, {branch(0), nil, -28}, {[]api.Ins{{Op: op.Call, Arg: -1}}, nil, -9}, {call(900), nil, -9},
		{code(lits(7), ins(op.Throw)), []int{7}, 7}, {code(lits(7), ins(op.Throw), lits(9)), []int{7}, 7}, {code(lits(0), ins(op.Throw), lits(9)), []int{9}, 0},
		{code(ins(op.FromR), ins(op.ToR)), nil, 0}, {ins(op.FromR), []int{-2}, -6}, {code(lits(4), ins(op.ToR), ins(op.FromR)), []int{4}, 0}, {code(lits(-5), ins(op.ToR)), nil, -9}, {code(lits(3, 4), ins(op.Do)), nil, -9},
		{code(lits(3, xtFive), ins(op.Catch), lits(8)), []int{3, 5, 0, 8}, 0}, {code(lits(3, xtBad), ins(op.Catch), lits(8)), []int{3, -10, 8}, 0}, {code(lits(3, xtBad), ins(op.Execute), lits(8)), []int{3, 1, 2, 0}, -10}, {code(lits(9999), ins(op.Execute)), []int{9999}, -13},
	} {
		src := scan.Src{S: "a b", In: 1}
		got, to, e := checkDo(t, s, src, x.l)
		if !slices.Equal(got.S.T.D, x.d) || e != x.e || to != src {
			t.Error(k, x, got.S.T.D, int(e), to)
		}
		if !slices.Equal(got.S.T.R, []int{-2}) || got.S.T.P != (api.Place{}) || got.S.T.H != 0 || len(got.P.Threads) != 2 || len(got.P.Words) != 104 {
			t.Error(k, "is left with", got.S.T, len(got.P.Threads))
		}
	}
}

func TestDoCells(t *testing.T) {
	// The cells are there; what else a task has is not, and is gone behind it.
	s := filled(3)
	s.S.T.R, s.S.T.H, s.S.T.P = []int{9, 8, 7, 6}, 3, api.Place{Th: 5, At: 6}
	got, _, e := checkDo(t, s, scan.Src{}, code(ins(op.Depth), ins(op.FromR)))
	if e != -6 || !slices.Equal(got.S.T.D, []int{100, 101, 102, 3, -2}) || !slices.Equal(got.S.T.R, []int{-2}) || got.S.T.P != (api.Place{}) || got.S.T.H != 0 {
		t.Error(got.S.T, e)
	}
	if got, _, e := checkDo(t, s, scan.Src{}, code(lits(7), ins(op.Throw))); e != 7 || len(got.S.T.D) != 4 || len(got.S.T.R) != 1 {
		t.Error("what was caught before is caught no more:", got.S.T, e)
	}
	if got, _, e := checkDo(t, filled(63), scan.Src{}, lits(1)); e != 0 || len(got.S.T.D) != 64 {
		t.Error(len(got.S.T.D), e)
	}
	if got, _, e := checkDo(t, filled(64), scan.Src{}, lits(1)); e != -3 || len(got.S.T.D) != 64 {
		t.Error(len(got.S.T.D), e)
	}
	// The text is left alone, wherever it is.
	for _, src := range []scan.Src{{S: "a", In: -5}, {S: "a", In: 9}, {In: least}} {
		if _, to, e := checkDo(t, New(), src, lits(1)); to != src || e != 0 {
			t.Error(src, to, e)
		}
	}
}

func TestDoSteps(t *testing.T) {
	wait := func(n int) []api.Ins { return slices.Repeat(ins(op.Pause), n) }
	for _, x := range []struct {
		l []api.Ins
		e api.Throw
	}{
		{wait(3998), 0}, {wait(3999), 0}, {wait(4000), -28}, {wait(4094), -28}, {wait(5000), -28}, {code(wait(3999), ins(op.Bye)), 0}, {code(wait(4000), ins(op.Bye)), -28}, {code(wait(3999), ins(op.Drop)), -4}, {code(wait(4000), ins(op.Drop)), -28},
		{code(wait(3998), lits(5), ins(op.Sleep)), -28}, {code(wait(3997), lits(5), ins(op.Sleep)), 0}, {code(wait(3999), ins(op.Immediate)), -28}, {code(wait(3998), ins(op.Immediate)), 0}, {code(wait(3999), ins(op.Compile)), -4}, {code(wait(3998), lits(0), ins(op.Compile)), -14}, {code(wait(4000), ins(op.Compile)), -28},
	} {
		if _, _, e := checkDo(t, New(), scan.Src{}, x.l); e != x.e {
			t.Error(len(x.l), x.l[len(x.l)-1], int(e), int(x.e))
		}
	}
	// A place of a thread that has no number is not gone behind: nobody comes there within so many steps, but by a branch.
	if _, _, e := checkDo(t, New(), scan.Src{}, code(branch(4094), wait(4093))); e != 0 {
		t.Error(e)
	}
	if _, _, e := checkDo(t, New(), scan.Src{}, code(branch(4094), wait(4094))); e != -9 {
		t.Error(e)
	}
	// What was done by then stays.
	got, _, e := checkDo(t, New(), scan.Src{}, code(lits(5), ins(op.Comma), lits(7), branch(3)))
	if e != -28 || got.Here != 8 || got.S.M[0] != 5 || !slices.Equal(got.S.T.D, []int{7}) || !slices.Equal(got.S.T.R, []int{-2}) {
		t.Error(got.Here, got.S.T, e)
	}
	checkRows(t, []row{{": w 1000 0 do loop ; w", nil, "", 0}, {": w 3994 0 do loop ; w", nil, "", 0}, {": w 3993 0 do loop ; w w 1", []int{1}, "", 0}, {": w 3995 0 do loop ; w", nil, "", -28}})
}

func TestDoAsked(t *testing.T) {
	s := after(t, ": bad create 1 , 2 -77 throw ;")
	got, to, e := checkDo(t, s, scan.Src{S: "gone nam rest", In: 4}, code(ins(op.Create, op.Here), lits(9), ins(op.Comma, op.Here, op.Immediate)))
	if e != 0 || to.In != 9 || !slices.Equal(got.S.T.D, []int{0, 8}) || last(got) != (dict.Entry{Name: "NAM", Imm: true, Kind: dict.Var}) || got.Here != 8 || got.S.M[0] != 9 || len(got.P.Threads) != 1 {
		t.Error(got.S.T.D, last(got), got.Here, to, e)
	}
	// What the host laid ahead of a throw is there.
	got, to, e = checkDo(t, s, scan.Src{S: "nam rest"}, code(call(0), lits(3)))
	if e != -77 || to.In != 4 || last(got).Name != "NAM" || got.Here != 8 || got.S.M[0] != 1 || len(got.P.Threads) != 1 || !slices.Equal(got.S.T.D, []int{2, -77}) {
		t.Error(got.S.T.D, last(got), got.Here, to, e)
	}
	// What the host throws is caught like any other throw, and it goes on.
	const xtBad = 102
	got, to, e = checkDo(t, s, scan.Src{S: "  "}, code(lits(4, xtBad), ins(op.Catch), lits(3)))
	if e != 0 || to.In != 0 || !slices.Equal(got.S.T.D, []int{4, -16, 3}) || len(got.P.Words) != 103 {
		t.Error(got.S.T.D, to, e)
	}
	checkRows(t, []row{
		{": n create ; ' n catch", []int{-16}, "", 0}, {": c , ; 2048 allot 5 ' c catch", []int{5, -8}, "", 0}, {": c , ; 1 allot 5 ' c catch here", []int{5, -23, 1}, "", 0}, {": d does> 7 ; ' d catch", []int{-22}, "", 0}, {": x compile, ; 3 ' x catch", []int{3, -14}, "", 0}, {": l allot ; -1 ' l catch here", []int{-1, -8, 0}, "", 0},
		{": c [ here ] literal create ; ' c catch", []int{-16}, "", 0}, {": d does> 7 ; create v ' d catch v", []int{0, 0, 7}, "", 0}, {"' here execute ' create execute x x here", []int{0, 0, 0}, "", 0}, {"5 ' , execute here 0 @", []int{8, 5}, "", 0},
	})
	// A text whose next word may be no name stays where it is.
	long := strings.Repeat("x", 32)
	checkRows(t, []row{{": n create ; ' n catch " + long, nil, "", -13}, {": n create ; : " + long[1:] + " 5 ; ' n catch " + long[1:] + " " + long[1:], []int{0, 0}, "", 0}})
}

// P15.5

func TestCreate(t *testing.T) {
	for here, want := range map[int]int{0: 0, 1: 8, 8: 8, 2039: 2040, 2040: 2040, 2041: 2048, 2047: 2048, 2048: 2048} {
		s := at(here)
		s.S.M[2040] = 7
		got, to, e := asks(t, s, " nAm rest", op.Create)
		if e != 0 || last(got) != (dict.Entry{Name: "NAM", Kind: dict.Var, Val: want}) || got.Here != want || to.In != 5 || len(got.P.Words) != 103 || len(got.S.T.D) != 0 || got.S.M[2040] != 7 {
			t.Error(here, last(got), got.Here, to, e)
		}
	}
	if got, _, e := asks(t, New(), strings.Repeat("x", 31), op.Create); e != 0 || last(got).Name != strings.Repeat("X", 31) {
		t.Error(last(got), e)
	}
	for _, here := range []int{0, 3, 2048} {
		refused(t, at(here), "", -16, op.Create)
		refused(t, at(here), " \n ", -16, op.Create)
		refused(t, at(here), strings.Repeat("x", 32), -16, op.Create)
	}
	full := withWords(512)
	refused(t, full, "x", -8, op.Create)
	refused(t, full, "", -16, op.Create)
	refused(t, full, strings.Repeat("x", 32), -16, op.Create)
	if got, _, e := asks(t, withWords(511), "x", op.Create); e != 0 || len(got.P.Words) != 512 {
		t.Error(len(got.P.Words), e)
	}
	checkRows(t, []row{{"create a 1 , 2 , a cell+ @ here a -", []int{2, 16}, "", 0}, {"create", nil, "", -16}, {"1 allot create a a here", []int{8, 8}, "", 0}, {": mk create ; mk x mk y 8 allot mk z x y z", []int{0, 0, 8}, "", 0}, {"create a create a a", []int{0}, "", 0}})
}

func TestBecome(t *testing.T) {
	// In a row of its own it is the end, and what is behind is not done.
	s := after(t, ": five 5 ; variable v")
	got, to, e := checkDo(t, s, scan.Src{S: "x"}, code(lits(1), ins(op.Does), lits(2)))
	if e != 0 || !slices.Equal(got.S.T.D, []int{1}) || last(got) != (dict.Entry{Name: "V", Kind: dict.Does, P: api.Place{Th: 1, At: 2}}) || to.In != 0 || len(got.P.Threads) != 1 || len(got.P.Words) != 104 {
		t.Error(got.S.T.D, last(got), e)
	}
	s.P.Words = slices.Concat(s.P.Words, []dict.Entry{{Name: "small", Imm: true, Kind: dict.Var, Val: least, P: api.Place{Th: 77}}})
	if got, _, e := asks(t, s, "", op.Does); e != 0 || last(got) != (dict.Entry{Name: "small", Imm: true, Kind: dict.Does, Val: least, P: api.Place{Th: 1, At: 1}}) {
		t.Error(last(got), e)
	}
	// Control: no Var, or no word at all.
	for _, w := range []dict.Entry{{Name: "K", Kind: dict.Con}, {Name: "C", Kind: dict.Colon}, {Name: "D", Kind: dict.Does}, {Name: "DUP", Val: op.Dup}, {Name: "X", Kind: -1}} {
		s.P.Words = []dict.Entry{{Name: "V", Kind: dict.Var}, w}
		refused(t, s, "", -22, op.Does)
	}
	s.P.Words = nil
	refused(t, s, "", -22, op.Does)
	// The throws of ret.Leave, behind Control: nothing changes then.
	for _, x := range []struct {
		l []api.Ins
		d []int
		e api.Throw
	}{{ins(op.FromR), []int{-2}, -6}, {code(lits(-5), ins(op.ToR)), nil, -9}, {code(lits(-1), ins(op.ToR)), nil, -6}} {
		s := after(t, "variable v")
		got, _, e := checkDo(t, s, scan.Src{}, code(x.l, ins(op.Does)))
		if e != x.e || !slices.Equal(got.S.T.D, x.d) || !slices.Equal(got.P.Words, s.P.Words) {
			t.Error(x, got.S.T.D, last(got), int(e))
		}
		if _, _, e := checkDo(t, New(), scan.Src{}, code(x.l, ins(op.Does))); e != -22 {
			t.Error(x, int(e))
		}
	}
	// Where a catch stood, it is left with 0.
	checkRows(t, []row{{": d does> 7 ; variable v 5 ' d catch v", []int{5, 0, 0, 7}, "", 0}, {": d 9 does> 7 ; variable v d v", []int{9, 0, 7}, "", 0}, {": d [ 8 allot ] does> @ ; create v 3 , d v", []int{3}, "", 0}, {": o d2 ;", nil, "", -13}, {": d does> 1+ ; : o create d 5 ; o v v", []int{5, 1}, "", 0}, {": d 1 >r does> ; create v d", nil, "", -4}})
}

func TestHere(t *testing.T) {
	for _, here := range []int{0, 1, 2040, 2047, 2048} {
		s := at(here)
		s.S.T.D = cells(63)
		if got, _, e := asks(t, s, "", op.Here); e != 0 || got.S.T.D[63] != here || got.Here != here || len(got.S.T.D) != 64 {
			t.Error(here, got.S.T.D, e)
		}
		s.S.T.D = cells(64)
		refused(t, s, "", -3, op.Here)
	}
}

func TestAllot(t *testing.T) {
	for _, x := range []struct{ here, n, want int }{{0, 0, 0}, {0, 2048, 2048}, {2048, -2048, 0}, {2048, 0, 2048}, {5, 3, 8}, {5, -5, 0}, {2040, 8, 2048}, {2047, 1, 2048}} {
		s := at(x.here)
		s.S.T.D = []int{4}
		if got, _, e := asks(t, s, "", op.Allot, x.n); e != 0 || got.Here != x.want || !slices.Equal(got.S.T.D, []int{4}) {
			t.Error(x, got.Here, got.S.T.D, e)
		}
	}
	for _, x := range []struct{ here, n int }{{0, 2049}, {0, -1}, {2048, 1}, {2048, -2049}, {5, -6}, {2040, 9}, {2047, 2}, {0, least}, {0, greatest}, {2048, least}, {2048, greatest}, {1, greatest}} {
		refused(t, at(x.here), "", -8, op.Allot, x.n)
	}
	refused(t, New(), "", -4, op.Allot)
	checkRows(t, []row{{"5 allot here -5 allot here", []int{5, 0}, "", 0}, {"2048 allot here", []int{2048}, "", 0}, {"2049 allot", nil, "", -8}, {"-1 allot", nil, "", -8}, {"8 allot -9 allot", nil, "", -8}})
}

func TestComma(t *testing.T) {
	for _, here := range []int{0, 8, 2032, 2040} {
		for _, x := range []int{0, 258, -1, least, greatest} {
			s := at(here)
			for k := range 2056 {
				s.S.M[k] = 200
			}
			got, _, e := asks(t, s, "", op.Comma, 4, x)
			if e != 0 || got.Here != here+8 || !slices.Equal(got.S.T.D, []int{4}) {
				t.Error(here, x, got.Here, got.S.T.D, e)
			}
			for k := range 2056 {
				want := byte(200)
				if k >= here && k < here+8 {
					want = byte(x >> (8 * (k - here)))
				}
				if got.S.M[k] != want {
					t.Error(here, x, "at", k, "is", got.S.M[k])
				}
			}
		}
	}
	for here, e := range map[int]api.Throw{1: -23, 4: -23, 7: -23, 2039: -23, 2041: -8, 2047: -8, 2048: -8} {
		refused(t, at(here), "", e, op.Comma, 5)
	}
	refused(t, at(2048), "", -4, op.Comma)
}

func TestCompile(t *testing.T) {
	s := known()
	n := len(s.B.Code)
	for k, want := range [][]api.Ins{ins(op.Depth), call(0), lits(24), lits(least), code(lits(4096), call(1))} {
		got, _, e := asks(t, s, "", op.Compile, 4, 102+k)
		if e != 0 || !slices.Equal(got.B.Code[n:], want) || !slices.Equal(got.S.T.D, []int{4}) || !got.Comp {
			t.Error(k, got.B.Code, got.S.T.D, e)
		}
		// Imm or not.
		if got, _, e := asks(t, s, "", op.Compile, 110+k); e != 0 || !slices.Equal(got.B.Code[n:], want) {
			t.Error(k, got.B.Code, e)
		}
	}
	idle := s
	idle.Comp = false
	for _, xt := range []int{-1, 107, 108, 118, 512, least, greatest} {
		refused(t, s, "", -13, op.Compile, xt)
		refused(t, idle, "", -14, op.Compile, xt)
	}
	refused(t, idle, "", -14, op.Compile, 102)
	refused(t, idle, "", -4, op.Compile)
	s.B.Code = defining(4095).B.Code
	refused(t, s, "", -8, op.Compile, 106)
	if got, _, e := asks(t, s, "", op.Compile, 102); e != 0 || len(got.B.Code) != 4096 {
		t.Error(len(got.B.Code), e)
	}
	s.B.Code = defining(4096).B.Code
	refused(t, s, "", -8, op.Compile, 102)
	refused(t, s, "", -13, op.Compile, 107)
	checkRows(t, []row{{"1 compile,", nil, "", -14}, {": c compile, ; immediate : a [ ' dup ] c [ ' + ] c ; 5 a", []int{10}, "", 0}, {": c ['] dup compile, ; immediate : a c c ; 5 a", []int{5, 5, 5}, "", 0}, {": c 999 compile, ; immediate : a c", nil, "", -13}})
}

func TestImmediate(t *testing.T) {
	for _, w := range []dict.Entry{{Name: "K", Kind: dict.Con, Val: 5}, {Name: "I", Imm: true, Kind: dict.Colon}, {Name: "no", Kind: 9}} {
		s := New()
		s.P.Words = slices.Concat(s.P.Words, []dict.Entry{w})
		w.Imm = true
		if got, _, e := asks(t, s, "x", op.Immediate, 3); e != 0 || last(got) != w || len(got.P.Words) != 103 || !slices.Equal(got.S.T.D, []int{3}) {
			t.Error(last(got), got.S.T.D, e)
		}
	}
	if got, _, e := asks(t, New(), "", op.Immediate); e != 0 || last(got) != (dict.Entry{Name: "IMMEDIATE", Imm: true, Val: op.Immediate}) {
		t.Error(last(got), e)
	}
	refused(t, withWords(0), "", -13, op.Immediate)
	checkRows(t, []row{{": im 42 ; immediate : u im ; u", []int{42}, "", 0}, {": im 42 ; : u im ; immediate : w u ;", []int{42}, "", 0}, {"variable v immediate : u v ;", []int{0}, "", 0}, {": a 1 [ immediate ] ; : b a ;", nil, "", 0}})
}

// Two systems that are made from one do not come into each other, whatever is done.
func TestApart(t *testing.T) {
	one := after(t, ": five 5 ; variable v 1 2 : open 1 if")
	for _, x := range []struct{ a, b string }{
		{"7 then ; 3 v ! create c immediate 5 , s\" abc\"", "8 9 else then [ 6 ] ; 4 v ! create d 6 , .\" out\" s\" def\""}, {"then ; immediate", "then ; : w does> ; variable u w"}, {"then ; : a 1 ;", "then ; : b 2 ;"}, {"begin begin", "0 0 do leave"}, {"then ; 1 1 1 note", "then ; 2 2 2 note"},
	} {
		in, asItWas := handed(t, one, x.a)
		a, e1 := Eval(in, x.a)
		keptA := wholeSys(a)
		b, e2 := Eval(in, x.b)
		if d := differ(wholeSys(a), keptA); d != "" || e1 != 0 || e2 != 0 {
			t.Errorf("%q goes over into %q: %s; %d, %d", x.b, x.a, d, int(e1), int(e2))
		}
		keptB := wholeSys(b)
		Eval(a, x.b)
		Eval(b, x.a)
		Eval(a, "drop drop 1 2 3 immediate 9 0 !")
		if d := differ(wholeSys(b), keptB) + differ(wholeSys(a), keptA); d != "" {
			t.Errorf("%q, %q: what was answered is changed: %s", x.a, x.b, d)
		}
		asItWas()
	}
}

// A thread of as many instructions as there may be is laid, and run.
func TestLongThread(t *testing.T) {
	s, e := checkEval(t, New(), ": a "+strings.Repeat("1 drop ", 1990)+"; a : b a ; 5")
	if e != 0 || !slices.Equal(s.S.T.D, []int{5}) || len(s.P.Threads[0]) != 3981 {
		t.Error(s.S.T.D, e)
	}
	var text strings.Builder
	text.WriteString(": a exit")
	for range 4094 {
		text.WriteString(" dup")
	}
	s, e = Eval(New(), text.String()+" ;")
	if e != 0 || len(s.P.Threads) != 1 || len(s.P.Threads[0]) != 4096 {
		t.Error(e)
	}
	if _, e = Eval(New(), text.String()+" dup dup"); e != -8 {
		t.Error(e)
	}
	if s, e = Eval(New(), text.String()+" dup"); e != 0 || len(s.B.Code) != 4096 || !flow.Sane(s.B) {
		t.Error(e)
	}
	if s, e = Eval(New(), text.String()+" dup ;"); e != -8 || s.Comp || len(s.P.Threads) != 0 {
		t.Error(e)
	}
}
