package step

import (
	"bytes"
	"encoding/binary"
	"math"
	"slices"
	"strings"
	"testing"

	"tenterhook/api"
	"tenterhook/dict"
	"tenterhook/op"
	"tenterhook/ret"
)

const (
	least    = math.MinInt
	greatest = math.MaxInt
	lastAddr = 1000000*4096 + 4095
)

// spare are bytes behind the end of a memory that is handed in: no call may see or touch them.
const spare = 160

// fill is a memory of n bytes, no two neighbours the same, which has room behind its end; in each area that is there is the base 10.
func fill(n int) []byte {
	out := make([]byte, n+spare)
	for k := range out {
		out[k] = byte(151*k + 77)
	}
	out = out[:n]
	for k := range 8 {
		out = with(out, 4096+128*k, 10)
	}
	return out
}

// with is a copy of m, with its room, in which there are cells from a place on, as far as the memory has it.
func with(m []byte, at int, x ...int) []byte {
	out := bytes.Clone(m[:cap(m)])[:len(m):cap(m)]
	for k, n := range x {
		if to := at + 8*k; to >= 0 && to <= len(m)-8 {
			binary.LittleEndian.PutUint64(out[to:], uint64(n))
		}
	}
	return out
}

// withBytes is a copy of m with other bytes at a place.
func withBytes(m []byte, at int, s string) []byte {
	out := bytes.Clone(m)
	copy(out[at:], s)
	return out
}

// cellAt is the cell at a place.
func cellAt(m []byte, at int) int { return int(binary.LittleEndian.Uint64(m[at:])) }

// place is a place, and number is its number.
func place(th, k int) api.Place { return api.Place{Th: th, At: k} }
func number(th, k int) int      { return 4096*th + k }

// cells are n cells that are told apart, from a first one on.
func cells(n, first int) []int {
	out := make([]int, n)
	for k := range out {
		out[k] = first + k
	}
	return out
}

// events are n events.
func events(n int) []api.Event {
	out := make([]api.Event, n)
	for k := range out {
		out[k] = api.Event{Task: k % 8, Kind: k, At: 2048 + k, Val: -k}
	}
	return out
}

// opOf is the operation of a name, a hidden one too.
func opOf(name string) int {
	for o := range op.Count {
		if op.Name(o) == strings.ToUpper(name) {
			return o
		}
	}
	panic("no operation " + name)
}

// ins is an instruction.
func ins(name string, arg int) api.Ins { return api.Ins{Op: opOf(name), Arg: arg} }

// alone is a program of one thread of one instruction, with the words of most tests.
func alone(i api.Ins) Prog { return Prog{Threads: [][]api.Ins{{i}}, Words: words()} }

// inLib is such a one whose thread is of the library.
func inLib(i api.Ins) Prog { return Prog{Threads: [][]api.Ins{{i}}, Words: words(), Lib: 1} }

// start is task 3 at the beginning of the thread 0, with these cells.
func start(d ...int) State {
	return State{T: ret.Task{D: d, R: []int{-2}}, M: fill(5120), Out: "o", Me: 3, Tick: 99, Hist: events(2)}
}

// The words of most tests, by their places.
const (
	xtDup = iota
	xtSquare
	xtVar
	xtCon
	xtDoes
	xtExecute
	xtCatch
	xtExit
	xtHere
	xtThrow
	xtSmall
	xtHidden
	xtNoKind
	xtLost
	xtLostDoes
	xtFar
	xtCount
)

func words() []dict.Entry {
	return []dict.Entry{
		{Name: "DUP", Kind: dict.Prim, Val: op.Dup}, {Name: "SQUARE", Kind: dict.Colon, P: place(2, 5)}, {Name: "V", Kind: dict.Var, Val: 640}, {Name: "C", Kind: dict.Con, Val: least}, {Name: "D", Kind: dict.Does, Val: 648, P: place(3, 7), Imm: true},
		{Name: "EXECUTE", Kind: dict.Prim, Val: op.Execute}, {Name: "CATCH", Kind: dict.Prim, Val: op.Catch}, {Name: "EXIT", Kind: dict.Prim, Val: op.Exit}, {Name: "HERE", Kind: dict.Prim, Val: op.Here}, {Name: "THROW", Kind: dict.Prim, Val: op.Throw},
		{Name: "small", Kind: dict.Con, Val: 5}, {Name: "(LIT)", Kind: dict.Prim, Val: op.Lit}, {Name: "K", Kind: 5, Val: 5}, {Name: "L", Kind: dict.Colon, P: place(-1, 0)}, {Name: "LD", Kind: dict.Does, P: place(0, 4096)}, {Name: "FAR", Kind: dict.Colon, P: place(1000000, 4095)},
	}
}

// same: are two states alike? Lists without elements are, nil or not.
func same(a, b State) bool {
	return slices.Equal(a.T.D, b.T.D) && slices.Equal(a.T.R, b.T.R) && a.T.P == b.T.P && a.T.H == b.T.H && bytes.Equal(a.M, b.M) && a.Out == b.Out && a.Me == b.Me && a.Tick == b.Tick && slices.Equal(a.Hist, b.Hist)
}

// roomy is a list with room behind its end, in which stands what nobody is to touch.
func roomy[E any](l []E, other E) []E {
	out := append(slices.Clone(l), other, other, other, other, other, other)
	return out[:len(l)]
}

// roomyState is a state whose lists have room behind their ends.
func roomyState(s State) State {
	s.T.D, s.T.R = roomy(s.T.D, 7001), roomy(s.T.R, 7002)
	s.M, s.Hist = roomy(s.M, 77), roomy(s.Hist, api.Event{Task: 7003})
	return s
}

// behind is a list with the room behind it.
func behind[E any](l []E) []E { return slices.Clone(l[:cap(l)]) }

// whole is a state with the room behind its lists.
func whole(s State) State {
	s.T.D, s.T.R, s.M, s.Hist = behind(s.T.D), behind(s.T.R), behind(s.M), behind(s.Hist)
	return s
}

// sameProg: are two programs alike?
func sameProg(a, b Prog) bool {
	return slices.EqualFunc(a.Threads, b.Threads, slices.Equal) && slices.Equal(a.Words, b.Words) && a.Lib == b.Lib
}

// wholeProg is a program with the room behind its lists.
func wholeProg(p Prog) Prog {
	threads := behind(p.Threads)
	for k := range threads {
		threads[k] = behind(threads[k])
	}
	return Prog{Threads: threads, Words: behind(p.Words), Lib: p.Lib}
}

// roomyProg is a program whose lists have room behind their ends.
func roomyProg(p Prog) Prog {
	threads := slices.Clone(p.Threads)
	for k := range threads {
		threads[k] = roomy(threads[k], api.Ins{Op: 7004})
	}
	return Prog{Threads: roomy(threads, nil), Words: roomy(p.Words, dict.Entry{Name: "R"}), Lib: p.Lib}
}

// check holds a step against the model, and what was handed in against what it was.
func check(t *testing.T, p Prog, s State) (State, Res) {
	t.Helper()
	want, wantRes := modelStep(p, s)
	inP, in := roomyProg(p), roomyState(s)
	keptP, kept := wholeProg(inP), whole(in)
	got, r := Step(inP, in)
	if !same(got, want) || r != wantRes {
		t.Errorf("%v, D %v, R %v, H %d at %v: got %v %v %d %v %v, want %v %v %d %v %v", here(p, s), s.T.D, s.T.R, s.T.H, s.T.P, got.T.D, got.T.R, got.T.H, got.T.P, r, want.T.D, want.T.R, want.T.H, want.T.P, wantRes)
	}
	if !same(whole(in), kept) || !sameProg(wholeProg(inP), keptP) {
		t.Errorf("%v, D %v: what was handed in is changed", here(p, s), s.T.D)
	}
	return got, r
}

// here tells which instruction stands at a state's place.
func here(p Prog, s State) string {
	at := s.T.P
	if at.Th < 0 || at.Th >= len(p.Threads) || at.At < 0 || at.At >= len(p.Threads[at.Th]) {
		return "none"
	}
	return op.Name(p.Threads[at.Th][at.At].Op)
}

// on is a state one instruction on, with these cells on D.
func on(s State, d ...int) State {
	s.T.P.At++
	s.T.D = d
	return s
}

// goes holds a step against the state that is wanted, with Goes.
func goes(t *testing.T, p Prog, s, want State) {
	t.Helper()
	tells(t, p, s, want, Res{})
}

// tells holds a step against the state that is wanted, and what is told.
func tells(t *testing.T, p Prog, s, want State, told Res) {
	t.Helper()
	got, r := check(t, p, s)
	if !same(got, want) || r != told {
		t.Errorf("%v, D %v, R %v: got %v %v %v %q %v, want %v %v %v %q %v", here(p, s), s.T.D, s.T.R, got.T.D, got.T.R, got.T.P, got.Out, r, want.T.D, want.T.R, want.T.P, want.Out, told)
	}
	if !bytes.Equal(got.M, want.M) || !slices.Equal(got.Hist, want.Hist) {
		t.Errorf("%v, D %v: the memory or what was noted is another one", here(p, s), s.T.D)
	}
}

// throws holds a step against a throw that is not caught: all is as it was, but that At is one more.
func throws(t *testing.T, p Prog, s State, e api.Throw) {
	t.Helper()
	tells(t, p, s, on(s, s.T.D...), Res{Kind: Died, N: int(e)})
}

// insane are tasks that are not sane, of each kind.
func insane() []ret.Task {
	r := cells(5, 10)
	return []ret.Task{
		{D: make([]int, 65)}, {D: make([]int, 200), R: r}, {R: make([]int, 65)}, {R: make([]int, 66), H: 3},
		{R: r, H: -1}, {R: r, H: least}, {R: r, H: 1}, {R: r, H: 2}, {R: r, H: 6}, {R: r, H: greatest}, {H: 3}, {R: r[:2], H: 2},
		{R: r, P: place(-1, 0)}, {R: r, P: place(0, -1)}, {R: r, P: place(1000001, 0)}, {R: r, P: place(0, 4096)}, {R: r, P: place(least, greatest)}, {R: r, P: place(greatest, least)},
		{D: make([]int, 65), R: make([]int, 65), P: place(-1, -1), H: -5},
	}
}

// P14.1

func TestLib(t *testing.T) {
	for _, x := range []struct {
		lib, th int
		want    bool
	}{
		{3, -1, false}, {3, 0, true}, {3, 1, true}, {3, 2, true}, {3, 3, false}, {3, 4, false}, {3, least, false}, {3, greatest, false},
		{1, 0, true}, {1, 1, false}, {0, 0, false}, {0, -1, false}, {-1, -1, false}, {-1, 0, false}, {least, 0, false}, {least, least, false}, {greatest, greatest - 1, true}, {greatest, greatest, false}, {greatest, -1, false},
	} {
		for _, k := range []int{0, 1, 4095, 4096, -1, least, greatest} {
			if got := Lib(Prog{Lib: x.lib}, place(x.th, k)); got != x.want {
				t.Error(x, k, got)
			}
		}
	}
	if !Lib(Prog{Threads: [][]api.Ins{nil}, Lib: 9}, place(8, 0)) {
		t.Error("whether there is such a thread is not asked")
	}
}

func TestUser(t *testing.T) {
	for _, x := range []struct{ me, want int }{{0, 4096}, {1, 4224}, {2, 4352}, {3, 4480}, {4, 4608}, {5, 4736}, {6, 4864}, {7, 4992}, {8, 4992}, {9, 4992}, {-1, 4992}, {-2, 4992}, {least, 4992}, {greatest, 4992}} {
		if got := User(x.me); got != x.want {
			t.Error(x, got)
		}
	}
}

func TestKinds(t *testing.T) {
	if got := []int{Goes, Ended, Died, Paused, Sleeps, Asks}; !slices.Equal(got, []int{0, 1, 2, 3, 4, 5}) {
		t.Error(got)
	}
}

// What may not be is taken for a task at its beginning: its stacks are empty, and it stands at the first instruction.
func TestInsane(t *testing.T) {
	p := Prog{Threads: [][]api.Ins{{ins("(LIT)", 5)}, {ins("(LIT)", 6)}}, Words: words()}
	for _, x := range insane() {
		s := start()
		s.T = x
		want := start()
		want.T.D, want.T.P.At = []int{5}, 1
		goes(t, p, s, want)
		for _, i := range []api.Ins{ins("DROP", 0), ins("I", 0), ins("EXIT", 0), ins("R>", 0), ins("(BRANCH)", -1), ins("PAUSE", 0), ins("DEPTH", 0), ins("(CALL)", 4096), {Op: -1}} {
			got, r := check(t, alone(i), s)
			other, otherRes := Step(alone(i), start())
			if !same(got, other) || r != otherRes {
				t.Error(x, i, got.T, r)
			}
		}
		got, r := check(t, Prog{}, s)
		if !same(got, start()) || r != (Res{Died, -9, 0}) {
			t.Error(x, got.T, r)
		}
	}
}

// P14.2

// checkThrow holds a throw against the model, and what was handed in against what it was.
func checkThrow(t *testing.T, p Prog, s State, e int) (State, Res) {
	t.Helper()
	want, wantRes := modelThrow(p, s, e)
	inP, in := roomyProg(p), roomyState(s)
	keptP, kept := wholeProg(inP), whole(in)
	got, r := Throw(inP, in, api.Throw(e))
	if !same(got, want) || r != wantRes {
		t.Errorf("%d of %v with Lib %d: got %v %v, want %v %v", e, s.T, p.Lib, got.T, r, want.T, wantRes)
	}
	if !same(whole(in), kept) || !sameProg(wholeProg(inP), keptP) {
		t.Errorf("%d of %v: what was handed in is changed", e, s.T)
	}
	return got, r
}

func TestThrow(t *testing.T) {
	once := ret.Task{D: []int{1, 2, 3}, R: []int{-2, 0, 2, number(1, 9), -1, 50}, P: place(4, 4), H: 4}
	twice := ret.Task{D: []int{1, 2, 3}, R: []int{-2, 0, 1, number(1, 9), -1, 4, 5, number(2, 8), -1}, P: place(4, 4), H: 8}
	lost := ret.Task{D: []int{1, 2}, R: []int{0, 1, -1, 7}, P: place(4, 4), H: 3}
	for _, x := range []struct {
		t    ret.Task
		lib  int
		want ret.Task
		r    Res
	}{
		{ret.Task{D: []int{1}, R: []int{-2, 7}, P: place(4, 4)}, 0, ret.Task{D: []int{1}, R: []int{-2, 7}, P: place(4, 4)}, Res{Died, 77, 0}},
		{once, 0, ret.Task{D: []int{1, 2, 77}, R: []int{-2}, P: place(1, 9)}, Res{}},
		{once, 1, ret.Task{D: []int{1, 2, 77}, R: []int{-2}, P: place(1, 9)}, Res{}},
		{twice, 0, ret.Task{D: []int{1, 2, 3, 0, 0, 77}, R: []int{-2, 0, 1, number(1, 9), -1}, P: place(2, 8), H: 4}, Res{}},
		{twice, 2, ret.Task{D: []int{1, 2, 3, 0, 0, 77}, R: []int{-2, 0, 1, number(1, 9), -1}, P: place(2, 8), H: 4}, Res{}},
		// Into the library: nothing is caught, and all is as it was.
		{once, 2, once, Res{Died, 77, 0}}, {once, 5, once, Res{Died, 77, 0}}, {twice, 3, twice, Res{Died, 77, 0}},
		// The number is no place: the return stack is empty then, but where the place, which stays, is the library's.
		{lost, 0, ret.Task{D: []int{1, 2}, P: place(4, 4)}, Res{Died, 77, 0}},
		{lost, 4, ret.Task{D: []int{1, 2}, P: place(4, 4)}, Res{Died, 77, 0}},
		{lost, 5, lost, Res{Died, 77, 0}},
	} {
		s, want := start(), start()
		s.T, want.T = x.t, x.want
		got, r := checkThrow(t, Prog{Lib: x.lib}, s, 77)
		if !same(got, want) || r != x.r {
			t.Error(x, got.T, r)
		}
		got, r = checkThrow(t, Prog{Lib: x.lib}, s, 0)
		if !same(got, s) || r != (Res{}) {
			t.Error("0:", x, got.T, r)
		}
	}
}

func TestThrowAnyNumber(t *testing.T) {
	for _, e := range []int{least, -21, -9, -1, 1, 2, 77, greatest} {
		if got, r := checkThrow(t, Prog{}, start(5), e); !same(got, start(5)) || r != (Res{Died, e, 0}) {
			t.Error(e, got.T, r)
		}
		s := start(5, 6)
		s.T.R, s.T.H = []int{-2, 0, 1, number(1, 1), -1}, 4
		if got, r := checkThrow(t, Prog{}, s, e); r != (Res{}) || !slices.Equal(got.T.D, []int{5, e}) || got.T.P != place(1, 1) || got.T.H != 0 {
			t.Error(e, got.T, r)
		}
	}
}

func TestThrowInsane(t *testing.T) {
	for _, x := range insane() {
		s := start()
		s.T = x
		if got, r := checkThrow(t, Prog{}, s, 5); !same(got, start()) || r != (Res{Died, 5, 0}) {
			t.Error(x, got.T, r)
		}
		if got, r := checkThrow(t, Prog{Lib: 1}, s, 5); !same(got, start()) || r != (Res{Died, 5, 0}) {
			t.Error(x, got.T, r)
		}
		if got, r := checkThrow(t, Prog{}, s, 0); !same(got, start()) || r != (Res{}) {
			t.Error(x, got.T, r)
		}
	}
}

// What is thrown within a step is caught as deep as the catch stood, and all that the step began is left.
func TestThrownAndCaught(t *testing.T) {
	s := start(1, 2, 3)
	s.T.R, s.T.H, s.T.P = []int{-2, 0, 2, number(5, 6), -1, 8, 9}, 4, place(0, 0)
	goes(t, alone(ins("(LIT)", 0)), s, on(s, 1, 2, 3, 0))
	want := start(1, 2, -10)
	want.T.P = place(5, 6)
	s.T.D = []int{1, 2, 3, 0}
	goes(t, alone(ins("/", 0)), s, want)
	s.T.D, want.T.D = []int{1, 2, 3, 0}, []int{1, 2, -9}
	goes(t, alone(ins("!", 0)), s, want)
	goes(t, alone(ins("(BRANCH)", -1)), s, want)
	s.T.D, want.T.D = []int{1, 2, 77}, []int{1, 2, 77}
	goes(t, alone(ins("THROW", 0)), s, want)
	s.T.D, want.T.D = []int{77}, []int{77, 0, 77}
	goes(t, alone(ins("THROW", 0)), s, want)
	s.T.D, want.T.D = nil, []int{0, 0, -4}
	goes(t, alone(ins("THROW", 0)), s, want)
	want.T.D = []int{0, 0, -9}
	goes(t, Prog{}, s, want)
}

// P14.3

func TestStanding(t *testing.T) {
	p := Prog{Threads: [][]api.Ins{{ins("(LIT)", 1), ins("(LIT)", 2)}, nil, {}, {ins("(LIT)", 3)}}}
	for _, x := range []struct {
		at api.Place
		d  []int
	}{
		{place(0, 0), []int{1}}, {place(0, 1), []int{2}}, {place(0, 2), nil}, {place(0, 3), nil}, {place(0, 4095), nil}, {place(1, 0), nil}, {place(2, 0), nil}, {place(2, 1), nil},
		{place(3, 0), []int{3}}, {place(3, 1), nil}, {place(4, 0), nil}, {place(5, 7), nil}, {place(1000000, 0), nil}, {place(1000000, 4095), nil},
	} {
		s := start()
		s.T.P = x.at
		want, told := s, Res{Died, -9, 0}
		if x.d != nil {
			want, told = on(s, x.d...), Res{}
		}
		tells(t, p, s, want, told)
	}
	for _, p := range []Prog{{}, {Threads: [][]api.Ins{}}, {Threads: [][]api.Ins{nil}}, {Threads: [][]api.Ins{{}}}, {Lib: 1}, {Lib: greatest}, {Lib: least}} {
		tells(t, p, start(4), start(4), Res{Died, -9, 0})
	}
}

// The last place of a thread is not gone to by a step: one more would be none.
func TestLastOfThread(t *testing.T) {
	long := make([]api.Ins, 5000)
	for k := range long {
		long[k] = ins("(LIT)", k)
	}
	for _, n := range []int{4096, 4097, 5000} {
		p := Prog{Threads: [][]api.Ins{long[:n]}}
		for _, k := range []int{0, 1, 4093, 4094} {
			s := start()
			s.T.P = place(0, k)
			goes(t, p, s, on(s, k))
		}
		s := start(7)
		s.T.P = place(0, 4095)
		tells(t, p, s, s, Res{Died, -9, 0})
	}
	p := Prog{Threads: [][]api.Ins{long[:4095]}}
	s := start()
	s.T.P = place(0, 4094)
	goes(t, p, s, on(s, 4094))
}

func TestNoOperation(t *testing.T) {
	for _, o := range []int{-1, 111, 112, 1 << 20, least, greatest} {
		for _, d := range [][]int{nil, {1}, cells(64, 1)} {
			throws(t, alone(api.Ins{Op: o, Arg: 5}), start(d...), api.Host)
			throws(t, inLib(api.Ins{Op: o, Arg: 5}), start(d...), api.Host)
		}
	}
}

// With one cell fewer than it needs every operation throws Under, and with just these none does, but those that look deeper, throw what they take, or do another one.
func TestNeeds(t *testing.T) {
	for o := range op.Count {
		i := api.Ins{Op: o, Arg: 3}
		needs := op.Needs(o)
		for n := range needs {
			throws(t, alone(i), start(cells(n, 1)...), api.Under)
		}
		for _, first := range []int{0, 1, 4480, -4} {
			s := start(cells(needs, first)...)
			s.T.R = append(s.T.R, 5, 6, 7)
			_, r := check(t, alone(i), s)
			if other := o == op.Pick || o == op.Roll || o == op.Throw || o == op.Execute; r.N == int(api.Under) && !other {
				t.Error(op.Name(o), first, r)
			}
		}
	}
	// It is asked ahead of all else that an operation throws.
	for _, x := range []struct {
		name string
		arg  int
		d    []int
	}{{"(0BRANCH)", -1, nil}, {"(DO)", 0, []int{0}}, {"(?DO)", -1, []int{0}}, {"(+LOOP)", -1, nil}, {"EXECUTE", 0, nil}, {"CATCH", 0, nil}, {"!", 0, []int{0}}, {"FILL", 0, []int{1, 1}}, {"TYPE", 0, []int{-1}}, {"NOTE", 0, []int{1, 2}}, {"ALLOT", 0, nil}, {",", 0, nil}, {"COMPILE,", 0, nil}} {
		s := start(x.d...)
		s.T.R = nil
		throws(t, alone(ins(x.name, x.arg)), s, api.Under)
	}
}

func TestOver(t *testing.T) {
	for _, x := range []struct {
		name       string
		take, laid []int
	}{
		{"(LIT)", nil, []int{8}}, {"I", nil, []int{77}}, {"R@", nil, []int{77}}, {"J", nil, []int{75}}, {"R>", nil, []int{77}}, {"DUP", []int{5}, []int{5, 5}}, {"?DUP", []int{5}, []int{5, 5}}, {"DEPTH", nil, []int{63}},
		{"BASE", nil, []int{4480}}, {"ME", nil, []int{3}}, {"TICKS", nil, []int{99}},
	} {
		s := start(append(cells(63-len(x.take), 100), x.take...)...)
		s.T.R = []int{-2, 75, 76, 77}
		want := on(s, append(cells(63-len(x.take), 100), x.laid...)...)
		if x.name == "R>" {
			want.T.R = []int{-2, 75, 76}
		}
		goes(t, alone(ins(x.name, 8)), s, want)
		s.T.D = append(cells(64-len(x.take), 100), x.take...)
		throws(t, alone(ins(x.name, 8)), s, api.Over)
	}
	for _, x := range []struct {
		name string
		take []int
		laid []int
	}{{"@", []int{4480}, []int{10}}, {"CAS", []int{4480, 10, 11}, []int{-1}}, {"#>", []int{1, 2}, []int{4608, 0}}, {"SWAP", []int{1, 2}, []int{2, 1}}, {"+", []int{1, 2}, []int{3}}} {
		rest := cells(64-len(x.take), 100)
		s := start(slices.Concat(rest, x.take)...)
		s.M = with(s.M, 4488, 4608)
		want := on(s, slices.Concat(rest, x.laid)...)
		if x.name == "CAS" {
			want.M = with(s.M, 4480, 11)
		}
		goes(t, alone(ins(x.name, 0)), s, want)
	}
}

// The place ahead of the step tells whether it is within the library, and all else goes by the place behind the instruction.
func TestAtIsOneMore(t *testing.T) {
	p := Prog{Threads: [][]api.Ins{nil, {{}, {}, ins("(CALL)", number(0, 0)), ins("CATCH", 0)}}, Words: words()}
	s := start()
	s.T.P = place(1, 2)
	want := start()
	want.T.R, want.T.P = []int{-2, number(1, 3)}, place(0, 0)
	goes(t, p, s, want)
	s.T.P, s.T.D = place(1, 3), []int{9, xtSquare}
	want.T = ret.Task{D: []int{9}, R: []int{-2, 0, 1, number(1, 4), -1}, P: place(2, 5), H: 4}
	goes(t, p, s, want)
}

// P14.4

func TestBranch(t *testing.T) {
	for _, to := range []int{0, 1, 5, 4094, 4095} {
		want := start(1)
		want.T.P.At = to
		goes(t, alone(ins("(BRANCH)", to)), start(1), want)
		goes(t, alone(ins("(0BRANCH)", to)), start(1, 0), want)
		goes(t, alone(ins("(?DO)", to)), start(1, 6, 6), want)
		goes(t, alone(ins("(0BRANCH)", to)), start(1, 7), on(start(), 1))
		goes(t, alone(ins("(0BRANCH)", to)), start(1, least), on(start(), 1))
	}
	for _, to := range []int{-1, 4096, 4097, least, greatest, 1 << 32} {
		throws(t, alone(ins("(BRANCH)", to)), start(1), api.Address)
		throws(t, alone(ins("(0BRANCH)", to)), start(1, 0), api.Address)
		throws(t, alone(ins("(?DO)", to)), start(1, 6, 6), api.Address)
		// Where it does not branch, it is not asked whether it could.
		goes(t, alone(ins("(0BRANCH)", to)), start(1, -1), on(start(), 1))
		want := on(start(), 1)
		want.T.R = []int{-2, 6, 5}
		goes(t, alone(ins("(?DO)", to)), start(1, 6, 5), want)
	}
}

func TestCall(t *testing.T) {
	for _, to := range []api.Place{place(0, 0), place(7, 8), place(0, 4095), place(1000000, 4095)} {
		want := start(4)
		want.T.R, want.T.P = []int{-2, 1}, to
		goes(t, alone(ins("(CALL)", number(to.Th, to.At))), start(4), want)
	}
	for _, to := range []int{-1, -2, lastAddr + 1, least, greatest} {
		throws(t, alone(ins("(CALL)", to)), start(4), api.Address)
	}
	s := start()
	s.T.R = cells(63, 5)
	want := start()
	want.T.R, want.T.P = append(cells(63, 5), 1), place(0, 9)
	goes(t, alone(ins("(CALL)", 9)), s, want)
	s.T.R = cells(64, 5)
	throws(t, alone(ins("(CALL)", 9)), s, api.RetOver)
	throws(t, alone(ins("(CALL)", -1)), s, api.Address)
}

func TestExit(t *testing.T) {
	p := alone(ins("EXIT", 0))
	want := on(start(), 4)
	want.T.R = nil
	tells(t, p, start(4), want, Res{Kind: Ended})
	s := start(4)
	s.T.R = []int{9, -2}
	want.T.R = []int{9}
	tells(t, p, s, want, Res{Kind: Ended})
	s.T.R, want.T.R, want.T.P = []int{-2, number(6, 7)}, []int{-2}, place(6, 7)
	goes(t, p, s, want)
	s.T.R = nil
	throws(t, p, s, api.RetUnder)
	for _, x := range []int{-3, least, lastAddr + 1} {
		s.T.R = []int{-2, x}
		throws(t, p, s, api.Address)
	}
	s.T.R = []int{-2, -1}
	throws(t, p, s, api.RetUnder)
	s.T.R, s.T.H = []int{-2, 0, 1, number(6, 7), -1}, 4
	want.T.R, want.T.D = []int{-2}, []int{4, 0}
	goes(t, p, s, want)
	s.T.D = cells(64, 5)
	throwsCaught(t, p, s, api.Over)
}

// throwsCaught holds a step against a throw that is caught by the one catch of a state.
func throwsCaught(t *testing.T, p Prog, s State, e api.Throw) {
	t.Helper()
	caught, _ := ret.Throw(s.T, int(e))
	want := s
	want.T = caught
	goes(t, p, s, want)
}

// The library is come back to from within it alone.
func TestExitIntoLib(t *testing.T) {
	threads := make([][]api.Ins, 4)
	for k := range threads {
		threads[k] = []api.Ins{ins("EXIT", 0), ins("EXIT", 0)}
	}
	p := Prog{Threads: threads, Words: words(), Lib: 2}
	for from := range 4 {
		for to := range 5 {
			s := start(4)
			s.T.P, s.T.R = place(from, 1), []int{-2, number(to, 9)}
			if from >= 2 && to < 2 {
				throws(t, p, s, api.Address)
				continue
			}
			want := start(4)
			want.T.P = place(to, 9)
			goes(t, p, s, want)
		}
	}
	// Through a catch, too; and what is thrown is not caught there either.
	s := start(4)
	s.T.P, s.T.R, s.T.H = place(3, 0), []int{-2, 0, 1, number(1, 9), -1}, 4
	throws(t, p, s, api.Address)
	s.T.R[3] = number(2, 9)
	want := start(4, 0)
	want.T.P = place(2, 9)
	goes(t, p, s, want)
	s.T.R[3], s.T.P = number(1, 9), place(1, 0)
	want.T.P = place(1, 9)
	goes(t, p, s, want)
	// It is the place ahead of the step that tells who comes back: an end is told there as anywhere.
	s.T.R, s.T.H, s.T.P = []int{-2}, 0, place(1, 1)
	want = start(4)
	want.T.R, want.T.P = nil, place(1, 2)
	tells(t, p, s, want, Res{Kind: Ended})
}

func TestDo(t *testing.T) {
	for _, name := range []string{"(DO)", "(?DO)"} {
		for _, x := range [][]int{{5, 2}, {2, 5}, {0, -1}, {least, greatest}, {greatest, least}} {
			want := on(start(), 4)
			want.T.R = []int{-2, x[0], x[1]}
			goes(t, alone(ins(name, 9)), start(4, x[0], x[1]), want)
		}
		s := start(5, 2)
		s.T.R = cells(62, 1)
		want := on(start())
		want.T.R = append(cells(62, 1), 5, 2)
		goes(t, alone(ins(name, 9)), s, want)
		s.T.R = cells(63, 1)
		throws(t, alone(ins(name, 9)), s, api.RetOver)
	}
	for _, x := range []int{0, 5, least, greatest} {
		want := on(start(), 4)
		want.T.R = []int{-2, x, x}
		goes(t, alone(ins("(DO)", 9)), start(4, x, x), want)
		want.T.R, want.T.P.At = []int{-2}, 9
		goes(t, alone(ins("(?DO)", 9)), start(4, x, x), want)
	}
	s := start(3, 3)
	s.T.R = cells(64, 1)
	want := start()
	want.T.R, want.T.P.At = cells(64, 1), 9
	goes(t, alone(ins("(?DO)", 9)), s, want)
	throws(t, alone(ins("(DO)", 9)), s, api.RetOver)
}

func TestLoop(t *testing.T) {
	for _, x := range []struct {
		name         string
		n            []int
		limit, index int
		end          bool
		next         int
	}{
		{"(LOOP)", nil, 5, 2, false, 3}, {"(LOOP)", nil, 5, 4, true, 0}, {"(LOOP)", nil, 5, 5, false, 6}, {"(LOOP)", nil, -5, -6, true, 0}, {"(LOOP)", nil, least, greatest, true, 0}, {"(LOOP)", nil, 0, greatest, false, least},
		{"(+LOOP)", []int{1}, 5, 4, true, 0}, {"(+LOOP)", []int{3}, 5, 1, false, 4}, {"(+LOOP)", []int{3}, 5, 2, true, 0}, {"(+LOOP)", []int{-1}, 5, 5, true, 0}, {"(+LOOP)", []int{-1}, 5, 6, false, 5}, {"(+LOOP)", []int{-3}, 5, 7, true, 0}, {"(+LOOP)", []int{-3}, 5, 8, false, 5}, {"(+LOOP)", []int{0}, 5, 4, false, 4},
		{"(+LOOP)", []int{least}, 0, 0, true, 0}, {"(+LOOP)", []int{greatest}, 0, 1, false, least},
	} {
		for _, to := range []int{0, 1, 7, 4095} {
			s := start(append([]int{4}, x.n...)...)
			s.T.R = []int{-2, x.limit, x.index}
			want := on(start(), 4)
			if !x.end {
				want.T.R, want.T.P.At = []int{-2, x.limit, x.next}, to
			}
			goes(t, alone(ins(x.name, to)), s, want)
		}
		for _, to := range []int{-1, 4096, least, greatest} {
			s := start(append([]int{4}, x.n...)...)
			s.T.R = []int{-2, x.limit, x.index}
			if x.end {
				goes(t, alone(ins(x.name, to)), s, on(start(), 4))
			} else {
				throws(t, alone(ins(x.name, to)), s, api.Address)
			}
		}
		for _, r := range [][]int{nil, {5}} {
			s := start(append([]int{4}, x.n...)...)
			s.T.R = r
			throws(t, alone(ins(x.name, 1)), s, api.RetUnder)
			throws(t, alone(ins(x.name, -1)), s, api.RetUnder)
		}
	}
}

func TestUnloop(t *testing.T) {
	s := start(4)
	s.T.R = []int{-2, 5, 2}
	goes(t, alone(ins("UNLOOP", 0)), s, on(start(), 4))
	for _, r := range [][]int{nil, {5}} {
		s.T.R = r
		throws(t, alone(ins("UNLOOP", 0)), s, api.RetUnder)
	}
}

func TestReturnCells(t *testing.T) {
	s := start(4)
	s.T.R = []int{-2, 50, 51, 52}
	want := on(s, 4, 52)
	goes(t, alone(ins("I", 9)), s, want)
	goes(t, alone(ins("R@", 9)), s, want)
	goes(t, alone(ins("J", 9)), s, on(s, 4, 50))
	want.T.R = []int{-2, 50, 51}
	goes(t, alone(ins("R>", 9)), s, want)
	s.T.R = []int{50, 51}
	throws(t, alone(ins("J", 9)), s, api.RetUnder)
	s.T.R = nil
	for _, name := range []string{"I", "J", "R@", "R>"} {
		throws(t, alone(ins(name, 9)), s, api.RetUnder)
	}
	for _, x := range []int{0, 7, least, greatest, -1, -2} {
		want := on(start(), 4)
		want.T.R = []int{-2, x}
		goes(t, alone(ins(">R", 9)), start(4, x), want)
	}
	s = start(4, 7)
	s.T.R = cells(63, 1)
	want = on(start(), 4)
	want.T.R = append(cells(63, 1), 7)
	goes(t, alone(ins(">R", 9)), s, want)
	s.T.R = cells(64, 1)
	throws(t, alone(ins(">R", 9)), s, api.RetOver)
	// A cell of the last catch that is taken: what it would catch is not caught any more.
	s = start(4)
	s.T.R, s.T.H = []int{-2, 0, 1, number(1, 1)}, 4
	want = on(start(), 4, number(1, 1))
	want.T.R = []int{-2, 0, 1}
	goes(t, alone(ins("R>", 9)), s, want)
}

func TestThrowOperation(t *testing.T) {
	goes(t, alone(ins("THROW", 9)), start(4, 0), on(start(), 4))
	for _, n := range []int{1, -1, -9, 77, least, greatest} {
		throws(t, alone(ins("THROW", 0)), start(4, n), api.Throw(n))
		throws(t, inLib(ins("THROW", 0)), start(4, n), api.Throw(n))
	}
	s := start(0)
	s.T.R, s.T.H = []int{-2, 0, 1, number(1, 1), -1}, 4
	want := on(s)
	goes(t, alone(ins("THROW", 9)), s, want)
}

func TestExecute(t *testing.T) {
	p := alone(ins("EXECUTE", 9))
	goes(t, p, start(4, 5, xtDup), on(start(), 4, 5, 5))
	goes(t, p, start(4, xtVar), on(start(), 4, 640))
	goes(t, p, start(4, xtCon), on(start(), 4, least))
	want := start(4)
	want.T.R, want.T.P = []int{-2, 1}, place(2, 5)
	goes(t, p, start(4, xtSquare), want)
	want.T.P, want.T.D = place(3, 7), []int{4, 648}
	goes(t, p, start(4, xtDoes), want)
	want.T.P, want.T.D = place(1000000, 4095), []int{4}
	goes(t, p, start(4, xtFar), want)
	want = on(start(), 4)
	want.T.R = nil
	tells(t, p, start(4, xtExit), want, Res{Kind: Ended})
	tells(t, p, start(4, xtHere), on(start(), 4), Res{Asks, op.Here, 0})
	throws(t, p, start(4, 77, xtThrow), 77)
	goes(t, p, start(4, 0, xtThrow), on(start(), 4))
	want = start(4)
	want.T = ret.Task{D: []int{4}, R: []int{-2, 0, 1, 1, -1}, P: place(2, 5), H: 4}
	goes(t, p, start(4, xtSquare, xtCatch), want)

	for _, xt := range []int{xtSmall, xtHidden, xtNoKind, xtLost, xtLostDoes, xtCount, xtCount + 1, -1, -2, least, greatest} {
		throws(t, p, start(4, xt), api.Undefined)
	}
	for _, d := range [][]int{{xtExecute}, {xtDup, xtExecute}, {4, 5, xtExecute}} {
		throws(t, p, start(d...), api.Host)
	}
	throws(t, p, start(xtDup), api.Under)
	throws(t, p, start(xtThrow), api.Under)
	throws(t, p, start(xtCatch), api.Under)
	throws(t, p, start(4, xtExecute, xtCatch), api.Undefined)
	throws(t, Prog{Threads: p.Threads}, start(4, 0), api.Undefined)
	throws(t, Prog{Threads: p.Threads, Words: []dict.Entry{}}, start(4, 0), api.Undefined)
}

func TestExecuteWhereItIsFull(t *testing.T) {
	p := alone(ins("EXECUTE", 9))
	goes(t, p, start(append(cells(63, 5), xtVar)...), on(start(), append(cells(63, 5), 640)...))
	goes(t, p, start(append(cells(62, 5), xtDup)...), on(start(), append(cells(62, 5), 66)...))
	goes(t, p, start(append(cells(63, 5), xtDup)...), on(start(), append(cells(63, 5), 67)...))
	s := start(append(cells(63, 5), xtDoes)...)
	want := start(append(cells(63, 5), 648)...)
	want.T.R, want.T.P = []int{-2, 1}, place(3, 7)
	goes(t, p, s, want)
	s.T.R = cells(64, 5)
	throws(t, p, s, api.RetOver)
	s.T.D = []int{4, xtSquare}
	throws(t, p, s, api.RetOver)
}

// Who does a word by EXECUTE is who does EXECUTE.
func TestExecuteByWho(t *testing.T) {
	at := []dict.Entry{{Name: "@", Kind: dict.Prim, Val: op.Fetch}, {Name: "NOTE", Kind: dict.Prim, Val: op.Note}}
	p := Prog{Threads: [][]api.Ins{{ins("EXECUTE", 0)}}, Words: at}
	throws(t, p, start(2048, 0), api.Address)
	throws(t, p, start(1, 2, 3, 1), api.Host)
	p.Lib = 1
	goes(t, p, start(2048, 0), on(start(), cellAt(fill(5120), 2048)))
	want := on(start())
	want.Hist = append(events(2), api.Event{Task: 3, Kind: 3, At: 2, Val: 1})
	goes(t, p, start(1, 2, 3, 1), want)
}

func TestCatch(t *testing.T) {
	p := alone(ins("CATCH", 9))
	want := start(4, 5)
	want.T = ret.Task{D: []int{4, 5}, R: []int{-2, 0, 2, 1, -1}, P: place(2, 5), H: 4}
	goes(t, p, start(4, 5, xtSquare), want)
	want.T.P = place(1000000, 4095)
	goes(t, p, start(4, 5, xtFar), want)
	// Within another one: how deep that stood is kept.
	s := start(xtSquare)
	s.T.R, s.T.H = []int{-2, 0, 1, 1, -1, 8}, 4
	want = start()
	want.T = ret.Task{R: []int{-2, 0, 1, 1, -1, 8, 4, 0, 1, -1}, P: place(2, 5), H: 9}
	goes(t, p, s, want)

	for _, xt := range []int{xtDup, xtVar, xtCon, xtDoes, xtExecute, xtCatch, xtExit, xtNoKind, xtHidden, xtSmall, xtLostDoes, xtCount, -1, least, greatest} {
		throws(t, p, start(4, xt), api.Undefined)
	}
	throws(t, p, start(4, xtLost), api.Address)
	throws(t, Prog{Threads: p.Threads}, start(4, 0), api.Undefined)
	s = start(4, xtSquare)
	s.T.R = cells(60, 5)
	want = start(4)
	want.T = ret.Task{D: []int{4}, R: append(cells(60, 5), 0, 1, 1, -1), P: place(2, 5), H: 63}
	goes(t, p, s, want)
	s.T.R = cells(61, 5)
	throws(t, p, s, api.RetOver)
}
