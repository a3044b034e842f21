package step

import (
	"bytes"
	"slices"
	"strings"
	"testing"

	"tenterhook/api"
	"tenterhook/dict"
	"tenterhook/guard"
	"tenterhook/op"
	"tenterhook/ret"
)

// thread is a thread of words: a number is laid, and what stands behind a "~" is an operation's Arg.
func thread(s string) []api.Ins {
	var out []api.Ins
	for w := range strings.FieldsSeq(s) {
		name, arg, ok := strings.Cut(w, "~")
		switch {
		case ok:
			out = append(out, ins(name, whole10(arg)))
		case strings.Trim(w, "0123456789") == "" || w[0] == '-' && len(w) > 1:
			out = append(out, ins("(LIT)", whole10(w)))
		default:
			out = append(out, ins(w, 0))
		}
	}
	return out
}

// whole10 is the number of a text.
func whole10(s string) int {
	n := 0
	for _, c := range strings.TrimPrefix(s, "-") {
		n = 10*n + int(c-'0')
	}
	if s[0] == '-' {
		return -n
	}
	return n
}

// program is a program of threads, with some words.
func program(threads ...string) Prog {
	p := Prog{Words: words()}
	for _, s := range threads {
		p.Threads = append(p.Threads, thread(s))
	}
	return p
}

// checkRun holds a run against so many steps of the model, and what was handed in against what it was.
func checkRun(t *testing.T, p Prog, s State, n int) (State, Res, int) {
	t.Helper()
	want, wantRes, steps := s, Res{}, 0
	for steps < n && steps < 4000 && wantRes.Kind == Goes {
		want, wantRes = modelStep(p, want)
		steps++
	}
	inP, in := roomyProg(p), roomyState(s)
	keptP, kept := wholeProg(inP), whole(in)
	got, r, k := Run(inP, in, n)
	if !same(got, want) || r != wantRes || k != steps {
		t.Errorf("%d steps: got %v %q %v %d, want %v %q %v %d", n, got.T, got.Out, r, k, want.T, want.Out, wantRes, steps)
	}
	if !same(whole(in), kept) || !sameProg(wholeProg(inP), keptP) {
		t.Errorf("%d steps: what was handed in is changed", n)
	}
	return got, r, k
}

// P14.8

func TestRunHowOften(t *testing.T) {
	p := program("1 + (BRANCH)~0")
	for _, x := range []struct{ n, want int }{{least, 0}, {-1, 0}, {0, 0}, {1, 1}, {2, 2}, {3, 3}, {3999, 3999}, {4000, 4000}, {4001, 4000}, {1 << 40, 4000}, {greatest, 4000}} {
		got, r, k := checkRun(t, p, start(0), x.n)
		if k != x.want || r != (Res{}) || got.T.D[0] != (x.want+1)/3 || got.T.P.At != x.want%3 {
			t.Error(x, got.T, r, k)
		}
	}
	s := start(1)
	s.T.H = 2
	for _, n := range []int{least, -1, 0} {
		if got, r, k := Run(p, s, n); !same(got, s) || r != (Res{}) || k != 0 {
			t.Error("of none, the state is as it was:", n, got.T, r, k)
		}
	}
}

func TestRunStops(t *testing.T) {
	for _, x := range []struct {
		s    string
		d    []int
		want Res
		n    int
	}{
		{"1 2 + EXIT 5", []int{3}, Res{Kind: Ended}, 4}, {"BYE 5", nil, Res{Kind: Ended}, 1}, {"1 PAUSE 5", []int{1}, Res{Kind: Paused}, 2}, {"1 7 SLEEP 5", []int{1}, Res{Sleeps, 7, 0}, 3}, {"1 0 / 5", []int{1, 0}, Res{Died, -10, 0}, 3}, {"1 (DOES)~9 5", []int{1}, Res{Asks, op.Does, 9}, 2}, {"1 2", []int{1, 2}, Res{Died, -9, 0}, 3}, {"", nil, Res{Died, -9, 0}, 1},
		{"0 THROW 5 EXIT", []int{5}, Res{Kind: Ended}, 4}, {"-77 THROW", []int{-77}, Res{Died, -77, 0}, 2},
	} {
		got, r, k := checkRun(t, program(x.s), start(), 100)
		if !slices.Equal(got.T.D, x.d) || r != x.want || k != x.n {
			t.Error(x, got.T.D, r, k)
		}
		if got, r, k = checkRun(t, program(x.s), start(), x.n); r != x.want || k != x.n {
			t.Error(x, got.T.D, r, k)
		}
		if got, r, k = checkRun(t, program(x.s), start(), x.n-1); r != (Res{}) || k != x.n-1 {
			t.Error(x, got.T.D, r, k)
		}
	}
	// Behind a pause it goes on where it stood.
	s, _, _ := checkRun(t, program("1 PAUSE 2 EXIT"), start(), 100)
	if s, r, k := checkRun(t, program("1 PAUSE 2 EXIT"), s, 100); !slices.Equal(s.T.D, []int{1, 2}) || r != (Res{Kind: Ended}) || k != 2 {
		t.Error(s.T, r, k)
	}
}

// Whole programs, by what they leave and tell.
func TestPrograms(t *testing.T) {
	for k, x := range []struct {
		threads []string
		d       []int
		out     string
		r       Res
	}{
		{[]string{"5 2 + EXIT"}, []int{7}, "o", Res{Kind: Ended}},
		{[]string{"5 (CALL)~4096 . EXIT", "DUP * EXIT"}, nil, "o25 ", Res{Kind: Ended}},
		{[]string{"2 (CALL)~4096 EXIT", "(CALL)~8192 (CALL)~8192 EXIT", "DUP * 1+ EXIT"}, []int{26}, "o", Res{Kind: Ended}},
		{[]string{"3 0 (DO) I (LOOP)~3 9 EXIT"}, []int{0, 1, 2, 9}, "o", Res{Kind: Ended}},
		{[]string{"0 3 (DO) I -1 (+LOOP)~3 9 EXIT"}, []int{3, 2, 1, 0, 9}, "o", Res{Kind: Ended}},
		{[]string{"9 0 (DO) I 4 (+LOOP)~3 EXIT"}, []int{0, 4, 8}, "o", Res{Kind: Ended}},
		{[]string{"2 0 (DO) 12 10 (DO) J I (LOOP)~6 (LOOP)~3 EXIT"}, []int{0, 10, 0, 11, 1, 10, 1, 11}, "o", Res{Kind: Ended}},
		{[]string{"5 0 (DO) I 2 = (0BRANCH)~9 UNLOOP (BRANCH)~10 (LOOP)~3 7 EXIT"}, []int{7}, "o", Res{Kind: Ended}},
		{[]string{"3 3 (?DO)~5 I (LOOP)~3 9 EXIT"}, []int{9}, "o", Res{Kind: Ended}},
		{[]string{"4 3 (?DO)~5 I (LOOP)~3 9 EXIT"}, []int{3, 9}, "o", Res{Kind: Ended}},
		{[]string{"1 (0BRANCH)~4 5 EXIT 6 EXIT"}, []int{5}, "o", Res{Kind: Ended}},
		{[]string{"0 (0BRANCH)~4 5 EXIT 6 EXIT"}, []int{6}, "o", Res{Kind: Ended}},
		{[]string{"1 2 >R R@ R> EXIT"}, []int{1, 2, 2}, "o", Res{Kind: Ended}},
		// Word 0 divides by nought: caught, and one within another.
		{[]string{"7 8 0 CATCH EXIT", "DROP 0 / EXIT"}, []int{7, 0, -10}, "o", Res{Kind: Ended}},
		{[]string{"7 8 1 CATCH EXIT", "", "1 2 3 EXIT"}, []int{7, 8, 1, 2, 3, 0}, "o", Res{Kind: Ended}},
		{[]string{"7 2 CATCH EXIT", "DROP 0 / EXIT", "", "8 0 CATCH 1+ THROW EXIT"}, []int{7, -9}, "o", Res{Kind: Ended}},
		{[]string{"7 2 CATCH EXIT", "DROP 0 * EXIT", "", "8 0 CATCH THROW EXIT"}, []int{0, 0}, "o", Res{Kind: Ended}},
		{[]string{"7 0 CATCH DROP 5 THROW EXIT", "DROP 0 EXIT"}, []int{0, 5}, "o", Res{Died, 5, 0}},
		{[]string{"7 8 0 EXECUTE EXIT", "DROP 0 / EXIT"}, []int{7, 0}, "o", Res{Died, -10, 0}},
		// A catch below which cells were taken is none any more.
		{[]string{"7 0 CATCH EXIT", "R> R> 5 THROW"}, []int{7, -1, 3, 5}, "o", Res{Died, 5, 0}},
		// A word that goes on: what a Does lays, then where it is.
		{[]string{"3 EXECUTE EXIT", "", "", "1+ EXIT"}, []int{6}, "o", Res{Kind: Ended}},
		{[]string{"<# 57 0 # 46 HOLD #S #> TYPE HEX 255 . DECIMAL 255 . EXIT"}, nil, "o5.7FF 255 ", Res{Kind: Ended}},
		{[]string{"5 4488 ! 3 4488 +! 4488 @ 4488 8 9 CAS 4488 C@ EXIT"}, []int{8, -1, 9}, "o", Res{Kind: Ended}},
	} {
		p := program(x.threads...)
		p.Words = []dict.Entry{{Name: "A", Kind: dict.Colon, P: place(1, 0)}, {Name: "B", Kind: dict.Colon, P: place(2, 0)}, {Name: "C", Kind: dict.Colon, P: place(3, 0)}, {Name: "D", Kind: dict.Does, Val: 5, P: place(3, 0)}}
		got, r, _ := checkRun(t, p, start(), 200)
		if !slices.Equal(got.T.D, x.d) || got.Out != x.out || r != x.r {
			t.Error(k, x, got.T.D, got.Out, r)
		}
	}
}

// P14.9, P1, R3

// lot tells numbers that are mixed, the same ones each time.
type lot struct{ n uint64 }

// below is one of 0 to below k.
func (l *lot) below(k int) int {
	l.n = l.n*6364136223846793005 + 1442695040888963407
	return int(l.n>>33) % k
}

// of is one of some.
func (l *lot) of(some []int) int { return some[l.below(len(some))] }

// numbers are what cells and arguments may be: places of memory and of threads, words, edges.
var numbers = []int{0, 0, 1, 1, 2, 3, 4, 5, 7, 8, 10, 16, 65, 127, 128, 640, 1000, 2040, 2047, 2048, 4090, 4095, 4096, 4097, 4104, 4128, 4224, 4480, 4488, 4492, 4512, 4600, 4607, 4608, 4992, 5112, 5119, 5120, 8192, 8193, 12288, lastAddr, lastAddr + 1, -1, -1, -2, -3, -8, -10, 1 << 30, 1<<30 + 1, 1 << 32, least, least + 1, greatest}

// mixed are some of these numbers.
func (l *lot) mixed(n int) []int {
	out := make([]int, n)
	for k := range out {
		out[k] = l.of(numbers)
	}
	return out
}

// program is one of some threads, with any operations.
func (l *lot) program() Prog {
	p := Prog{Words: words(), Lib: l.of([]int{0, 0, 0, 1, 1, 2, 3, -1, greatest})}
	for range 1 + l.below(4) {
		var th []api.Ins
		for range l.below(12) {
			i := api.Ins{Op: l.below(op.Count), Arg: l.of(numbers)}
			switch l.below(4) {
			case 0:
				i.Op = op.Lit
			case 1:
				i.Arg = l.below(12)
			}
			switch l.below(60) {
			case 0:
				i.Op = l.of(numbers)
			case 1, 2, 3:
				th = append(th, ins("(LIT)", l.below(xtCount)))
				i.Op = l.of([]int{op.Execute, op.Catch})
			case 4:
				i.Op = l.of([]int{op.Pause, op.Sleep, op.Bye, op.Exit})
			}
			th = append(th, i)
		}
		p.Threads = append(p.Threads, th)
	}
	if l.below(20) == 0 {
		p.Words = nil
	}
	return p
}

// state is one of any kind; most are sane.
func (l *lot) state() State {
	s := State{M: fill(l.of([]int{5120, 5120, 5120, 4600, 4096, 100, 0})), Me: l.of([]int{0, 3, 3, 7, 8, -1, -2, least, greatest}), Tick: l.of(numbers)}
	if l.below(4) > 0 {
		s.M = with(s.M, 4488, 4608)
	}
	s.T.D = l.mixed(l.of([]int{0, 1, 2, 3, 4, 5, 6, 9, 30, 61, 62, 63, 64}))
	s.T.R = l.mixed(l.of([]int{0, 1, 1, 2, 3, 4, 5, 9, 30, 60, 61, 62, 63, 64}))
	if l.below(3) == 0 && len(s.T.R) > 4 {
		s.T.H = 3 + l.below(len(s.T.R)-3)
		copy(s.T.R[s.T.H-3:], []int{0, l.below(70), number(l.below(4), l.below(9)), -1})
	}
	s.T.P = place(l.below(4), l.below(8))
	s.Out = strings.Repeat("x", l.of([]int{0, 0, 1, 980, 998, 999, 1000}))
	s.Hist = events(l.of([]int{0, 1, 399, 400}))
	if l.below(30) == 0 {
		s.T = insane()[l.below(len(insane()))]
	}
	return s
}

// strayed: has a byte of the memory changed that may not be touched?
func strayed(p Prog, s, got State) bool {
	w := guard.Who{Task: s.Me, Lib: modelLib(p, s.T.P.Th)}
	user := modelUser(s.Me)
	for k := range s.M {
		own := k >= user && k < user+128
		if s.M[k] != got.M[k] && !own && !guard.May(w, k, 1, true) {
			return true
		}
	}
	return len(s.M) != len(got.M)
}

func TestMixes(t *testing.T) {
	l := &lot{n: 14}
	kinds := make([]int, 6)
	done := make([]int, op.Count)
	for range 15000 {
		p, s := l.program(), l.state()
		for range 25 {
			at := s.T.P
			got, r := check(t, p, s)
			if strayed(p, s, got) || r.Kind < 0 || r.Kind > 5 || !ret.Sane(got.T) {
				t.Fatal("strayed, or no kind, or not sane any more:", here(p, s), s.T, r)
			}
			kinds[r.Kind]++
			if name := here(p, s); r.Kind != Died && name != "none" && name != "" {
				done[p.Threads[at.Th][at.At].Op]++
			}
			if s = got; r.Kind == Died {
				break
			}
		}
		if t.Failed() {
			return
		}
	}
	for k, n := range kinds {
		if n < 100 {
			t.Error("a kind that is hardly met:", k, n)
		}
	}
	for o, n := range done {
		if n < 3 {
			t.Error("an operation that is hardly done:", op.Name(o), n)
		}
	}
}

// Every operation of every state, of any kind: it ends, and does as the model does.
func TestEachOperationOfMixes(t *testing.T) {
	l := &lot{n: 9}
	for o := -1; o <= op.Count; o++ {
		for range 120 {
			s := l.state()
			s.T.P = place(0, 0)
			p := alone(api.Ins{Op: o, Arg: l.of(numbers)})
			p.Lib = l.below(2)
			check(t, p, s)
			s.T.D = l.mixed(min(64, op.Needs(o)+l.below(3)))
			check(t, p, s)
			checkThrow(t, p, s, l.of(numbers))
		}
	}
}

// Numbers of any size, in the place of all that calls take.
func TestAnyNumbers(t *testing.T) {
	some := []int{least, -1, 0, 1, 4095, 4096, greatest}
	p := program("1 EXIT", "EXIT")
	for _, th := range some {
		for _, k := range some {
			for _, h := range some {
				for _, lib := range some {
					s := State{T: ret.Task{R: []int{th, k, h, lib}, P: place(th, k), H: h}, Me: th, Tick: k}
					p.Lib = lib
					check(t, p, s)
					checkThrow(t, p, s, th)
					checkRun(t, p, s, 3)
				}
			}
		}
	}
	for _, p := range []Prog{{}, {Threads: [][]api.Ins{nil}}, {Threads: [][]api.Ins{{}}, Words: []dict.Entry{}}} {
		for _, s := range []State{{}, {T: ret.Task{D: []int{}, R: []int{}}, M: []byte{}, Hist: []api.Event{}}} {
			for _, n := range some {
				if got, r, k := checkRun(t, p, s, n); n > 0 && (!same(got, s) || r != (Res{Died, -9, 0}) || k != 1) {
					t.Error(got, r, k)
				}
			}
		}
	}
}

// Two states that are made from one do not come into each other, nor into that one.
func TestTwoOfOne(t *testing.T) {
	for _, x := range []struct {
		name         string
		first, other []int
	}{
		{"(LIT)", nil, nil}, {">R", []int{1, 2}, []int{1, 3}}, {"(DO)", []int{1, 2}, []int{3, 4}}, {"!", []int{1, 4496}, []int{2, 4496}}, {"C!", []int{1, 4496}, []int{2, 4496}}, {"+!", []int{1, 4496}, []int{2, 4496}}, {"FILL", []int{4496, 3, 1}, []int{4496, 3, 2}}, {"MOVE", []int{0, 4496, 3}, []int{5, 4496, 3}}, {"CAS", []int{4496, cellAt(fill(5120), 4496), 1}, []int{4496, cellAt(fill(5120), 4496), 2}},
		{"EMIT", []int{65}, []int{66}}, {".", []int{5}, []int{6}}, {"NOTE", []int{1, 2, 3}, []int{4, 5, 6}}, {"HOLD", []int{65}, []int{66}}, {"#", []int{1, 0}, []int{2, 0}}, {"EXECUTE", []int{xtVar}, []int{xtCon}}, {"CATCH", []int{xtSquare}, []int{xtFar}}, {"DUP", []int{1}, []int{2}}, {"+", []int{1, 2}, []int{3, 4}},
	} {
		in := roomyState(start())
		in.M = with(in.M, 4488, 4608)
		in.T.D = roomy(x.first, 7001)
		one, _ := Step(inLib(ins(x.name, 5)), in)
		kept := whole(one)
		Step(inLib(ins(x.name, 6)), in)
		in.T.D = roomy(x.other, 7001)
		Step(inLib(ins(x.name, 6)), in)
		// What is made of the first one does not come into it either.
		for k := range 3 {
			s := at0(one)
			for _, i := range []api.Ins{ins("(LIT)", k), ins(">R", 0), ins("NOTE", 0), ins("DROP", 0), ins("!", 0), ins("EMIT", 0), ins("(CALL)", k)} {
				Step(inLib(i), s)
			}
		}
		if !same(whole(one), kept) {
			t.Error(x.name, "came into another one")
		}
	}
}

// What a step answers hangs on nothing but what it was given.
func TestTwice(t *testing.T) {
	l := &lot{n: 3}
	for range 300 {
		p, s := l.program(), l.state()
		one, r, k := Run(p, s, 30)
		other, r2, k2 := Run(roomyProg(p), roomyState(s), 30)
		if !same(one, other) || r != r2 || k != k2 || !bytes.Equal(one.M, other.M) {
			t.Error(s.T, one.T, other.T, r, r2)
		}
	}
}
