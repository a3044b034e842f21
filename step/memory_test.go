package step

import (
	"slices"
	"strings"
	"testing"

	"tenterhook/api"
	"tenterhook/op"
)

// P14.5

// Each operation of the group 1, with what it takes and what it leaves.
func TestDataAlone(t *testing.T) {
	done := map[int]bool{}
	for _, x := range []struct {
		name       string
		take, laid []int
	}{
		{"DUP", []int{1}, []int{1, 1}}, {"DROP", []int{1}, nil}, {"SWAP", []int{1, 2}, []int{2, 1}}, {"OVER", []int{1, 2}, []int{1, 2, 1}}, {"ROT", []int{1, 2, 3}, []int{2, 3, 1}}, {"NIP", []int{1, 2}, []int{2}}, {"TUCK", []int{1, 2}, []int{2, 1, 2}},
		{"2DUP", []int{1, 2}, []int{1, 2, 1, 2}}, {"2DROP", []int{1, 2}, nil}, {"2SWAP", []int{1, 2, 3, 4}, []int{3, 4, 1, 2}}, {"2OVER", []int{1, 2, 3, 4}, []int{1, 2, 3, 4, 1, 2}}, {"?DUP", []int{5}, []int{5, 5}}, {"?DUP", []int{0}, []int{0}},
		{"PICK", []int{7, 8, 1}, []int{7, 8, 7}}, {"ROLL", []int{7, 8, 9, 2}, []int{8, 9, 7}}, {"DEPTH", nil, []int{2}}, {"+", []int{greatest, 1}, []int{least}}, {"-", []int{5, 7}, []int{-2}}, {"*", []int{-3, 7}, []int{-21}}, {"/", []int{-7, 2}, []int{-4}}, {"MOD", []int{-7, 2}, []int{1}}, {"/MOD", []int{7, 2}, []int{1, 3}},
		{"*/", []int{7, 8, 5}, []int{11}}, {"*/MOD", []int{7, 8, 5}, []int{1, 11}}, {"1+", []int{7}, []int{8}}, {"1-", []int{7}, []int{6}}, {"2*", []int{7}, []int{14}}, {"2/", []int{-7}, []int{-4}}, {"NEGATE", []int{7}, []int{-7}}, {"ABS", []int{-7}, []int{7}}, {"MIN", []int{7, -2}, []int{-2}}, {"MAX", []int{7, -2}, []int{7}},
		{"AND", []int{12, 10}, []int{8}}, {"OR", []int{12, 10}, []int{14}}, {"XOR", []int{12, 10}, []int{6}}, {"INVERT", []int{0}, []int{-1}}, {"LSHIFT", []int{3, 2}, []int{12}}, {"RSHIFT", []int{12, 2}, []int{3}}, {"=", []int{1, 1}, []int{-1}}, {"<>", []int{1, 1}, []int{0}}, {"<", []int{-1, 1}, []int{-1}}, {">", []int{-1, 1}, []int{0}}, {"U<", []int{-1, 1}, []int{0}},
		{"0=", []int{0}, []int{-1}}, {"0<", []int{-1}, []int{-1}}, {"WITHIN", []int{5, 1, 6}, []int{-1}}, {"UM*", []int{-1, 2}, []int{-2, 1}}, {"M*", []int{-1, 2}, []int{-2, -1}}, {"UM/MOD", []int{7, 0, 2}, []int{1, 3}}, {"FM/MOD", []int{-7, -1, 2}, []int{1, -4}}, {"SM/REM", []int{-7, -1, 2}, []int{-1, -3}}, {"S>D", []int{-7}, []int{-7, -1}},
		{"D+", []int{-1, 0, 1, 0}, []int{0, 1}}, {"DNEGATE", []int{1, 0}, []int{-1, -1}}, {"CELLS", []int{3}, []int{24}}, {"CELL+", []int{3}, []int{11}}, {"CHAR+", []int{3}, []int{4}}, {"ALIGNED", []int{3}, []int{8}},
	} {
		below := []int{70, 71}
		goes(t, alone(ins(x.name, 9)), start(slices.Concat(below, x.take)...), on(start(), slices.Concat(below, x.laid)...))
		done[opOf(x.name)] = true
	}
	for o := range op.Count {
		if op.Group(o) == 1 && !done[o] {
			t.Error("not done:", op.Name(o))
		}
	}
	for _, x := range []struct {
		name string
		d    []int
		e    api.Throw
	}{
		{"/", []int{5, 0}, api.Zero}, {"MOD", []int{5, 0}, api.Zero}, {"UM/MOD", []int{0, 5, 5}, api.Range}, {"SM/REM", []int{0, 0, 0}, api.Zero}, {"PICK", []int{7, 8, 2}, api.Under}, {"PICK", []int{7, 8, -1}, api.Under}, {"ROLL", []int{7, 1}, api.Under}, {"ROLL", []int{least}, api.Under},
	} {
		throws(t, alone(ins(x.name, 9)), start(x.d...), x.e)
	}
}

// who is a state of a task, and a program of one instruction, within the library or not.
func who(me int, lib bool, i api.Ins, d ...int) (Prog, State) {
	s := start(d...)
	s.Me = me
	if lib {
		return inLib(i), s
	}
	return alone(i), s
}

// owners are some that touch memory, and which of some regions they may read and write: the data, the heap, their own area, another one's.
var owners = []struct {
	me, own, other int
	lib            bool
	read, write    [4]bool
}{
	{3, 4480, 4352, false, [4]bool{true, false, true, false}, [4]bool{false, false, true, false}},
	{3, 4480, 4608, true, [4]bool{true, true, true, false}, [4]bool{false, true, true, false}},
	{0, 4096, 4992, false, [4]bool{true, false, true, false}, [4]bool{false, false, true, false}},
	{7, 4992, 4096, true, [4]bool{true, true, true, false}, [4]bool{false, true, true, false}},
	{8, 4992, 4864, true, [4]bool{true, true, false, false}, [4]bool{false, true, false, false}},
	{-2, 4992, 4096, false, [4]bool{true, false, false, false}, [4]bool{false, false, false, false}},
	{-1, 4992, 4096, false, [4]bool{true, true, true, true}, [4]bool{true, true, true, true}},
	{-1, 4992, 4096, true, [4]bool{true, true, true, true}, [4]bool{true, true, true, true}},
}

func TestWhoTouches(t *testing.T) {
	m := fill(5120)
	for _, x := range owners {
		for k, at := range []int{1024, 3072, x.own + 64, x.other + 64} {
			for _, y := range []struct {
				name  string
				d     []int
				write bool
				laid  []int
				m     []byte
			}{
				{"@", []int{at}, false, []int{cellAt(m, at)}, m},
				{"C@", []int{at + 3}, false, []int{int(m[at+3])}, m},
				{"!", []int{-5, at}, true, nil, with(m, at, -5)},
				{"C!", []int{65, at + 3}, true, nil, withBytes(m, at+3, "A")},
				{"+!", []int{-5, at}, true, nil, with(m, at, cellAt(m, at)-5)},
				{"FILL", []int{at + 1, 3, 66}, true, nil, withBytes(m, at+1, "BBB")},
				{"MOVE", []int{1024, at + 1, 3}, true, nil, withBytes(m, at+1, string(m[1024:1027]))},
				{"CAS", []int{at, cellAt(m, at), 9}, true, []int{-1}, with(m, at, 9)},
				{"CAS", []int{at, cellAt(m, at) + 1, 9}, true, []int{0}, m},
				{"TYPE", []int{at, 0}, false, nil, m},
			} {
				p, s := who(x.me, x.lib, ins(y.name, 9), y.d...)
				may := x.read[k]
				if y.write {
					may = x.write[k]
				}
				if y.name == "TYPE" {
					may = true
				}
				if !may {
					throws(t, p, s, api.Address)
					continue
				}
				want := on(s, y.laid...)
				want.M = y.m
				goes(t, p, s, want)
			}
		}
	}
}

// It is the place that a step stands at, not where it leads, that tells whether it is within the library.
func TestWithinLibOnly(t *testing.T) {
	threads := [][]api.Ins{{ins("@", 0)}, {ins("@", 0)}, {ins("@", 0)}}
	for lib := -1; lib < 5; lib++ {
		for th := range 3 {
			s := start(2048)
			s.T.P.Th = th
			if th < lib {
				goes(t, Prog{Threads: threads, Lib: lib}, s, on(s, cellAt(s.M, 2048)))
			} else {
				throws(t, Prog{Threads: threads, Lib: lib}, s, api.Address)
			}
		}
	}
}

// The last byte that may be touched, and one more; the first one, and one fewer.
func TestEdgesOfRegions(t *testing.T) {
	for _, x := range []struct {
		name string
		d    []int
		e    api.Throw
	}{
		{"@", []int{0}, 0}, {"@", []int{-8}, -9}, {"@", []int{-1}, -9}, {"@", []int{2040}, 0}, {"@", []int{2041}, -9}, {"@", []int{2048}, -9}, {"@", []int{4480}, 0}, {"@", []int{4479}, -9}, {"@", []int{4472}, -9}, {"@", []int{4600}, 0}, {"@", []int{4601}, -9}, {"@", []int{4608}, -9}, {"@", []int{5112}, -9}, {"@", []int{5120}, -9},
		{"@", []int{1}, -23}, {"@", []int{2039}, -23}, {"@", []int{4484}, -23}, {"@", []int{least}, -9}, {"@", []int{greatest}, -9},
		{"!", []int{1, 4481}, -23}, {"!", []int{1, 4599}, -23}, {"!", []int{1, 4601}, -9}, {"!", []int{1, 4}, -9}, {"!", []int{1, least}, -9}, {"!", []int{1, greatest}, -9},
		{"+!", []int{1, 4481}, -23}, {"+!", []int{1, 3}, -23}, {"+!", []int{1, 8}, -9}, {"+!", []int{1, 4601}, -9}, {"+!", []int{1, greatest}, -9},
		{"CAS", []int{4481, 1, 2}, -23}, {"CAS", []int{3, 1, 2}, -9}, {"CAS", []int{4601, 1, 2}, -9}, {"CAS", []int{least, 1, 2}, -9},
		{"C@", []int{0}, 0}, {"C@", []int{-1}, -9}, {"C@", []int{2047}, 0}, {"C@", []int{2048}, -9}, {"C@", []int{4479}, -9}, {"C@", []int{4480}, 0}, {"C@", []int{4607}, 0}, {"C@", []int{4608}, -9}, {"C@", []int{5120}, -9}, {"C@", []int{least}, -9}, {"C@", []int{greatest}, -9},
		{"C!", []int{1, 4479}, -9}, {"C!", []int{1, 4480}, 0}, {"C!", []int{1, 4607}, 0}, {"C!", []int{1, 4608}, -9}, {"C!", []int{1, 0}, -9}, {"C!", []int{1, greatest}, -9},
		{"FILL", []int{4480, 128, 1}, 0}, {"FILL", []int{4480, 129, 1}, -9}, {"FILL", []int{4479, 2, 1}, -9}, {"FILL", []int{4607, 1, 1}, 0}, {"FILL", []int{4607, 2, 1}, -9}, {"FILL", []int{4480, -1, 1}, -9}, {"FILL", []int{4480, 0, 1}, 0}, {"FILL", []int{0, 0, 1}, 0}, {"FILL", []int{5120, 0, 1}, 0}, {"FILL", []int{5121, 0, 1}, -9}, {"FILL", []int{-1, 0, 1}, -9}, {"FILL", []int{4480, greatest, 1}, -9}, {"FILL", []int{greatest, greatest, 1}, -9}, {"FILL", []int{least, least, 1}, -9},
		{"MOVE", []int{0, 4480, 128}, 0}, {"MOVE", []int{0, 4480, 129}, -9}, {"MOVE", []int{4480, 4481, 127}, 0}, {"MOVE", []int{4480, 4481, 128}, -9}, {"MOVE", []int{1921, 4480, 128}, -9}, {"MOVE", []int{1920, 4480, 128}, 0}, {"MOVE", []int{4480, 0, 1}, -9}, {"MOVE", []int{2048, 4480, 1}, -9}, {"MOVE", []int{0, 4480, -1}, -9}, {"MOVE", []int{2048, 0, 0}, 0}, {"MOVE", []int{5120, 5120, 0}, 0}, {"MOVE", []int{5121, 4480, 0}, -9}, {"MOVE", []int{4480, 5121, 0}, -9}, {"MOVE", []int{greatest, 4480, greatest}, -9}, {"MOVE", []int{4480, least, 1}, -9},
		{"TYPE", []int{4480, 128}, 0}, {"TYPE", []int{4480, 129}, -9}, {"TYPE", []int{4479, 1}, -9}, {"TYPE", []int{0, 999}, 0}, {"TYPE", []int{0, -1}, -9}, {"TYPE", []int{5120, 0}, 0}, {"TYPE", []int{5121, 0}, -9}, {"TYPE", []int{greatest, greatest}, -9}, {"TYPE", []int{least, 1}, -9},
	} {
		s := start(x.d...)
		if x.e != api.OK {
			throws(t, alone(ins(x.name, 0)), s, x.e)
			continue
		}
		if got, r := check(t, alone(ins(x.name, 0)), s); r != (Res{}) || got.T.P.At != 1 {
			t.Error(x, r)
		}
	}
}

func TestBytesModulo(t *testing.T) {
	for _, x := range []struct{ c, want int }{{0, 0}, {255, 255}, {256, 0}, {321, 65}, {-1, 255}, {-191, 65}, {least, 0}, {greatest, 255}} {
		want := on(start())
		want.M = withBytes(fill(5120), 4500, string([]byte{byte(x.want)}))
		goes(t, alone(ins("C!", 0)), start(x.c, 4500), want)
		want.M = withBytes(fill(5120), 4500, string([]byte{byte(x.want), byte(x.want)}))
		goes(t, alone(ins("FILL", 0)), start(4500, 2, x.c), want)
		want = on(start())
		want.Out = "o" + string([]byte{byte(x.want)})
		goes(t, alone(ins("EMIT", 0)), start(x.c), want)
	}
	want := on(start(), 255)
	want.M = withBytes(fill(5120), 4500, "\xff")
	s := start(4500)
	s.M = want.M
	goes(t, alone(ins("C@", 0)), s, want)
}

func TestMoveOverItself(t *testing.T) {
	for _, x := range []struct {
		from, to int
		want     string
	}{{4500, 4502, "ababcd"}, {4502, 4500, "cdefef"}, {4500, 4500, "abcdef"}} {
		s := start(x.from, x.to, 4)
		s.M = withBytes(fill(5120), 4500, "abcdef")
		want := on(s)
		want.M = withBytes(fill(5120), 4500, x.want)
		goes(t, alone(ins("MOVE", 0)), s, want)
	}
}

// A memory that is shorter than all places: Address, where there is no such byte.
func TestSmallMemories(t *testing.T) {
	for _, n := range []int{0, 1, 7, 8, 9, 4485, 4607} {
		for _, x := range []struct {
			name string
			d    []int
			last int
		}{
			{"@", []int{0}, 7}, {"C@", []int{0}, 0}, {"C@", []int{8}, 8}, {"!", []int{5, 4600}, 4607}, {"C!", []int{5, 4485}, 4485}, {"C!", []int{5, 4484}, 4484}, {"+!", []int{5, 4600}, 4607}, {"FILL", []int{4484, 2, 7}, 4485}, {"MOVE", []int{0, 4480, 3}, 4482}, {"MOVE", []int{4482, 4480, 3}, 4484}, {"CAS", []int{4600, 0, 1}, 4607}, {"TYPE", []int{7, 2}, 8},
			{"<#", nil, 4495}, {"HOLD", []int{65}, 4495}, {"#>", []int{0, 0}, 4495}, {".", []int{5}, 4487}, {"U.", []int{5}, 4487}, {"HEX", nil, 4487}, {"DECIMAL", nil, 4487}, {"#", []int{1, 0}, 4487}, {"#S", []int{1, 0}, 4487}, {"SIGN", []int{-1}, 4495},
		} {
			s := start(x.d...)
			s.M = fill(n)
			if n <= x.last {
				throws(t, alone(ins(x.name, 0)), s, api.Address)
			} else {
				check(t, alone(ins(x.name, 0)), s)
			}
			for _, none := range [][]byte{nil, {}} {
				s.M = none
				throws(t, alone(ins(x.name, 0)), s, api.Address)
			}
		}
	}
	// Whether it may be touched is asked ahead of the memory, and where a place is ahead of how it lies.
	s := start(4481)
	s.M = nil
	throws(t, alone(ins("@", 0)), s, api.Address)
	s.M = fill(4488)
	throws(t, alone(ins("@", 0)), s, api.Address)
	s.M = fill(4489)
	throws(t, alone(ins("@", 0)), s, api.Align)
}

// P14.6

// told is a state one instruction on, with a text behind what it has told.
func told(s State, text string, d ...int) State {
	s = on(s, d...)
	s.Out += text
	return s
}

func TestOut(t *testing.T) {
	goes(t, alone(ins("EMIT", 0)), start(4, 'A'), told(start(), "A", 4))
	goes(t, alone(ins("EMIT", 0)), start(4, 10), told(start(), "\n", 4))
	goes(t, alone(ins("EMIT", 0)), start(4, 0xe9), told(start(), "\xe9", 4))
	goes(t, alone(ins("CR", 0)), start(4), told(start(), "\n", 4))
	goes(t, alone(ins("SPACE", 0)), start(4), told(start(), " ", 4))
	s := start(4, 4500, 3)
	s.M = withBytes(s.M, 4500, "a\x00\xff")
	goes(t, alone(ins("TYPE", 0)), s, told(s, "a\x00\xff", 4))
	s.T.D = []int{4, 4500, 0}
	goes(t, alone(ins("TYPE", 0)), s, told(s, "", 4))
	s.Out = ""
	goes(t, alone(ins("CR", 0)), s, told(s, "\n", 4, 4500, 0))
}

func TestNumbersByBase(t *testing.T) {
	for _, x := range []struct {
		base, n         int
		signed, without string
	}{
		{10, 0, "0 ", "0 "}, {10, 255, "255 ", "255 "}, {10, -5, "-5 ", "18446744073709551611 "}, {16, 255, "FF ", "FF "}, {16, -255, "-FF ", "FFFFFFFFFFFFFF01 "}, {2, 5, "101 ", "101 "}, {36, 35, "Z ", "Z "}, {36, -36, "-10 ", "3W5E11264SGRG "},
		{10, least, "-9223372036854775808 ", "9223372036854775808 "}, {10, greatest, "9223372036854775807 ", "9223372036854775807 "}, {2, least, "-1" + strings.Repeat("0", 63) + " ", "1" + strings.Repeat("0", 63) + " "},
	} {
		s := start(4, x.n)
		s.M = with(s.M, 4480, x.base)
		goes(t, alone(ins(".", 0)), s, told(s, x.signed, 4))
		goes(t, alone(ins("U.", 0)), s, told(s, x.without, 4))
	}
	for _, base := range []int{least, -1, 0, 1, 37, 256, greatest} {
		for _, name := range []string{".", "U."} {
			s := start(4, 5)
			s.M = with(s.M, 4480, base)
			throws(t, alone(ins(name, 0)), s, api.Number)
			s.Out = strings.Repeat("x", 1000)
			throws(t, alone(ins(name, 0)), s, api.Number)
		}
	}
}

// Each task has a base of its own; who is none of these has that of the last one.
func TestBaseByTask(t *testing.T) {
	for _, x := range []struct{ me, at int }{{0, 4096}, {1, 4224}, {3, 4480}, {7, 4992}, {8, 4992}, {-1, 4992}, {-2, 4992}, {least, 4992}, {greatest, 4992}} {
		s := start(4, 255)
		s.Me = x.me
		for k := range 8 {
			s.M = with(s.M, 4096+128*k, 8)
		}
		s.M = with(s.M, x.at, 16)
		goes(t, alone(ins(".", 0)), s, told(s, "FF ", 4))
		goes(t, alone(ins("U.", 0)), s, told(s, "FF ", 4))
		goes(t, alone(ins("BASE", 0)), s, on(s, 4, 255, x.at))
		want := on(s, 4, 255)
		goes(t, alone(ins("HEX", 0)), s, want)
		want.M = with(s.M, x.at, 10)
		goes(t, alone(ins("DECIMAL", 0)), s, want)
		s.M = with(s.M, x.at, 10)
		want.M = with(s.M, x.at, 16)
		goes(t, alone(ins("HEX", 0)), s, want)
	}
}

func TestFull(t *testing.T) {
	m := withBytes(fill(5120), 4500, "abc")
	for _, x := range []struct {
		name string
		d    []int
		text string
	}{
		{"EMIT", []int{'A'}, "A"}, {"CR", nil, "\n"}, {"SPACE", nil, " "}, {"TYPE", []int{4500, 3}, "abc"}, {".", []int{-17}, "-17 "}, {"U.", []int{-1}, "18446744073709551615 "}, {"TYPE", []int{4500, 0}, ""},
	} {
		room := len(x.text)
		for _, n := range []int{0, 1, 1000 - room - 1, 1000 - room} {
			s := start(x.d...)
			s.M, s.Out = m, strings.Repeat("x", n)
			goes(t, alone(ins(x.name, 0)), s, told(s, x.text))
		}
		for _, n := range []int{1000 - room + 1, 999, 1000, 1001, 2000} {
			if n+room <= 1000 {
				continue
			}
			s := start(x.d...)
			s.M, s.Out = m, strings.Repeat("x", n)
			throws(t, alone(ins(x.name, 0)), s, api.Full)
		}
	}
	s := start()
	s.Out = strings.Repeat("x", 1000)
	for _, x := range []struct {
		d []int
		e api.Throw
	}{{[]int{4500, 1}, -8}, {[]int{4607, 2}, -9}, {[]int{2048, 1}, -9}, {[]int{4500, -1}, -9}, {[]int{5120, 0}, 0}} {
		s.T.D = x.d
		if x.e == api.OK {
			goes(t, alone(ins("TYPE", 0)), s, told(s, ""))
		} else {
			throws(t, alone(ins("TYPE", 0)), s, x.e)
		}
	}
	s.T.D = []int{0, 2000}
	s.Out = ""
	throws(t, alone(ins("TYPE", 0)), s, api.Full)
	s.T.D = []int{0, 1000}
	goes(t, alone(ins("TYPE", 0)), s, told(s, string(s.M[:1000])))
	s.T.D = []int{0, 1001}
	throws(t, alone(ins("TYPE", 0)), s, api.Full)
}

// follow does instructions one by one behind a state, each held against the model.
func follow(t *testing.T, s State, lib bool, l ...api.Ins) State {
	t.Helper()
	for _, i := range l {
		s.T.P = place(0, 0)
		p := alone(i)
		if lib {
			p = inLib(i)
		}
		var r Res
		if s, r = check(t, p, s); r.Kind != Goes {
			t.Error(op.Name(i.Op), r)
		}
	}
	return s
}

func TestPictures(t *testing.T) {
	for _, x := range []struct {
		me, at int
	}{{0, 4096}, {3, 4480}, {7, 4992}, {-1, 4992}, {8, 4992}} {
		s := start(4, 123, 0)
		s.Me = x.me
		end := x.at + 128
		begun := follow(t, s, false, ins("<#", 0))
		if cellAt(begun.M, x.at+8) != end || !slices.Equal(begun.T.D, []int{4, 123, 0}) {
			t.Error(x, cellAt(begun.M, x.at+8), begun.T.D)
		}
		one := follow(t, begun, false, ins("#", 0))
		if cellAt(one.M, x.at+8) != end-1 || one.M[end-1] != '3' || !slices.Equal(one.T.D, []int{4, 12, 0}) {
			t.Error(x, one.T.D)
		}
		all := follow(t, one, false, ins("(LIT)", '.'), ins("HOLD", 0), ins("#S", 0), ins("(LIT)", -1), ins("SIGN", 0), ins("(LIT)", 0), ins("SIGN", 0), ins("(LIT)", 256+'x'), ins("HOLD", 0))
		if !slices.Equal(all.T.D, []int{4, 0, 0}) || string(all.M[end-6:end]) != "x-12.3" {
			t.Errorf("%v %v %q", x, all.T.D, all.M[end-6:end])
		}
		ended := follow(t, all, false, ins("#>", 0))
		if !slices.Equal(ended.T.D, []int{4, end - 6, 6}) {
			t.Error(x, ended.T.D)
		}
		// Whoever has no area of its own has the last one's for the picture, but may not touch it.
		ended.Out = ""
		if x.me == 8 {
			throws(t, alone(ins("TYPE", 0)), at0(ended), api.Address)
			continue
		}
		if got := follow(t, ended, false, ins("TYPE", 0)); got.Out != "x-12.3" {
			t.Error(x, got.Out)
		}
	}
}

// at0 is a state at the beginning of the thread 0.
func at0(s State) State {
	s.T.P = place(0, 0)
	return s
}

func TestPictureOfDoubles(t *testing.T) {
	s := start(-1, -1)
	s = follow(t, s, false, ins("<#", 0), ins("#S", 0), ins("#>", 0), ins("TYPE", 0))
	if s.Out != "o340282366920938463463374607431768211455" {
		t.Error(s.Out)
	}
	s = start(0, 1)
	s = follow(t, s, true, ins("HEX", 0), ins("<#", 0), ins("#", 0), ins("#S", 0), ins("#>", 0), ins("TYPE", 0))
	if s.Out != "o10000000000000000" {
		t.Error(s.Out)
	}
	s = start(0, 0)
	s = follow(t, s, false, ins("<#", 0), ins("#S", 0), ins("#>", 0), ins("TYPE", 0))
	if s.Out != "o0" {
		t.Error(s.Out)
	}
}

func TestPicturesThatThrow(t *testing.T) {
	held := func(h int, d ...int) State {
		s := start(d...)
		s.M = with(s.M, 4488, h)
		return s
	}
	// The picture is of 4512 to below 4608: there is room for just one byte, and for none.
	for _, x := range []struct {
		name string
		d    []int
		laid []int
		c    string
	}{{"HOLD", []int{4, 'A'}, []int{4}, "A"}, {"SIGN", []int{4, -1}, []int{4}, "-"}, {"SIGN", []int{4, least}, []int{4}, "-"}, {"#", []int{4, 57, 0}, []int{4, 5, 0}, "7"}, {"#S", []int{4, 7, 0}, []int{4, 0, 0}, "7"}} {
		s := held(4513, x.d...)
		want := on(s, x.laid...)
		want.M = withBytes(with(s.M, 4488, 4512), 4512, x.c)
		goes(t, alone(ins(x.name, 0)), s, want)
		for _, h := range []int{4512, 4511, 4609, 0, -1, least, greatest} {
			throws(t, alone(ins(x.name, 0)), held(h, x.d...), api.PicOver)
		}
	}
	throws(t, alone(ins("#S", 0)), held(4513, 4, 57, 0), api.PicOver)
	goes(t, alone(ins("SIGN", 0)), held(4512, 4, 0), on(held(4512), 4))
	goes(t, alone(ins("SIGN", 0)), held(0, 4, greatest), on(held(0), 4))
	for _, base := range []int{0, 1, 37, -10} {
		for _, name := range []string{"#", "#S"} {
			s := held(4512, 4, 5, 0)
			s.M = with(s.M, 4480, base)
			throws(t, alone(ins(name, 0)), s, api.Number)
		}
	}
	for _, x := range []struct {
		h, n int
		e    api.Throw
	}{{4608, 0, 0}, {4607, 1, 0}, {4512, 96, 0}, {4511, 0, -9}, {4609, 0, -9}, {0, 0, -9}, {least, 0, -9}, {greatest, 0, -9}} {
		s := held(x.h, 4, 5, 6)
		if x.e == api.OK {
			goes(t, alone(ins("#>", 0)), s, on(s, 4, x.h, x.n))
		} else {
			throws(t, alone(ins("#>", 0)), s, x.e)
		}
	}
}

// P14.7

func TestMeAndTicks(t *testing.T) {
	for _, n := range []int{0, 3, -1, 8, 1 << 40, least, greatest} {
		s := start(4)
		s.Me, s.Tick = n, n-1
		goes(t, alone(ins("ME", 0)), s, on(s, 4, n))
		goes(t, alone(ins("TICKS", 0)), s, on(s, 4, n-1))
	}
}

func TestWaits(t *testing.T) {
	tells(t, alone(ins("PAUSE", 7)), start(4), on(start(), 4), Res{Kind: Paused})
	tells(t, alone(ins("BYE", 7)), start(4), on(start(), 4), Res{Kind: Ended})
	for _, x := range []struct{ n, want int }{{least, 1}, {-1, 1}, {0, 1}, {1, 1}, {2, 2}, {1<<30 - 1, 1<<30 - 1}, {1 << 30, 1 << 30}, {1<<30 + 1, 1 << 30}, {greatest, 1 << 30}} {
		tells(t, alone(ins("SLEEP", 7)), start(4, x.n), on(start(), 4), Res{Kind: Sleeps, N: x.want})
	}
}

func TestNote(t *testing.T) {
	i := ins("NOTE", 7)
	for _, x := range []struct {
		me  int
		lib bool
		may bool
	}{{3, false, false}, {3, true, true}, {0, false, false}, {-1, false, true}, {-1, true, true}, {-2, false, false}, {-2, true, true}, {least, true, true}, {greatest, false, false}} {
		for _, n := range []int{0, 1, 399} {
			p, s := who(x.me, x.lib, i, 4, 30, 31, 32)
			s.Hist = events(n)
			if !x.may {
				throws(t, p, s, api.Host)
				continue
			}
			want := on(s, 4)
			want.Hist = append(events(n), api.Event{Task: x.me, Kind: 32, At: 31, Val: 30})
			goes(t, p, s, want)
			s.Hist = nil
			want.Hist = want.Hist[n:]
			goes(t, p, s, want)
		}
		for _, n := range []int{400, 401, 1000} {
			p, s := who(x.me, x.lib, i, 4, 30, 31, 32)
			s.Hist = events(n)
			if x.may {
				throws(t, p, s, api.Full)
			} else {
				throws(t, p, s, api.Host)
			}
		}
	}
	p, s := who(3, true, i, least, greatest, least)
	want := on(s)
	want.Hist = append(events(2), api.Event{Task: 3, Kind: least, At: greatest, Val: least})
	goes(t, p, s, want)
}

// Who is asked takes the cells: they stay.
func TestAsks(t *testing.T) {
	asked := 0
	for o := range op.Count {
		if op.Group(o) != 7 {
			continue
		}
		asked++
		for _, arg := range []int{0, 5, -1, least, greatest} {
			for _, d := range [][]int{cells(op.Needs(o), 5), {4, 5, 6}, cells(64, 1)} {
				tells(t, alone(api.Ins{Op: o, Arg: arg}), start(d...), on(start(), d...), Res{Asks, o, arg})
				tells(t, inLib(api.Ins{Op: o, Arg: arg}), start(d...), on(start(), d...), Res{Asks, o, arg})
			}
		}
	}
	if asked != 7 {
		t.Error(asked)
	}
	tells(t, alone(ins("EXECUTE", 7)), start(4, xtHere), on(start(), 4), Res{Asks, op.Here, 0})
}
