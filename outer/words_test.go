package outer

import (
	"slices"
	"strconv"
	"strings"
	"testing"

	"tenterhook/api"
	"tenterhook/dict"
	"tenterhook/flow"
	"tenterhook/op"
	"tenterhook/scan"
)

// ins are instructions without an Arg.
func ins(ops ...int) []api.Ins {
	out := make([]api.Ins, len(ops))
	for k, o := range ops {
		out[k].Op = o
	}
	return out
}

// code are instructions, one behind the other.
func code(l ...[]api.Ins) []api.Ins { return slices.Concat(l...) }

// call are instructions that call the beginning of a thread.
func call(th int) []api.Ins { return []api.Ins{{Op: op.Call, Arg: 4096 * th}} }

// throws holds a word that throws, and is not run, against the system and the text as they came to it.
func throws(t *testing.T, s Sys, text string, want api.Throw) {
	t.Helper()
	for _, src := range []scan.Src{{S: text}, {S: "gone " + text, In: 5}, {S: text, In: -7}, {S: " \n" + text, In: 1}} {
		got, to, more, e := checkWord(t, s, src)
		if d := differ(got, s); d != "" || to != src || !more || e != want {
			t.Errorf("%.60q: differs in [%s]; %d, %v, %d, want %d", text, d, to.In, more, int(e), int(want))
		}
	}
}

// goes is a system behind one word of a text that throws nothing, and what is left of the text then.
func goes(t *testing.T, s Sys, text string) (Sys, string) {
	t.Helper()
	got, src, more, e := checkWord(t, s, scan.Src{S: text})
	if !more || e != 0 {
		t.Fatalf("%.60q: %v, %d", text, more, int(e))
	}
	return got, scan.Left(src)
}

// lays holds a word within a definition against what it lays behind the one instruction that is there.
func lays(t *testing.T, s Sys, text string, want ...api.Ins) Sys {
	t.Helper()
	was := s.B.Code
	s, _ = goes(t, s, text)
	if !slices.Equal(s.B.Code, slices.Concat(was, want)) || !s.Comp {
		t.Errorf("%.60q lays %v, want %v", text, s.B.Code[len(was):], want)
	}
	return s
}

// P15.3: the next word

func TestWordNone(t *testing.T) {
	for _, s := range []Sys{New(), defining(3), filled(64)} {
		for _, x := range []struct {
			src scan.Src
			in  int
		}{{scan.Src{}, 0}, {scan.Src{S: "  "}, 2}, {scan.Src{S: "a \t\n\x00", In: 1}, 5}, {scan.Src{S: "abc", In: 3}, 3}, {scan.Src{S: "abc", In: 4}, 3}, {scan.Src{S: "abc", In: greatest}, 3}, {scan.Src{In: least}, 0}, {scan.Src{S: " ", In: -1}, 1}} {
			got, to, more, e := checkWord(t, s, x.src)
			if more || e != 0 || to != (scan.Src{S: x.src.S, In: x.in}) || differ(got, s) != "" {
				t.Error(x, to, more, e, differ(got, s))
			}
		}
	}
}

func TestWordIn(t *testing.T) {
	for _, x := range []struct {
		src scan.Src
		in  int
		d   []int
	}{{scan.Src{S: " 12 x"}, 4, []int{12}}, {scan.Src{S: "12 34 56", In: 2}, 6, []int{34}}, {scan.Src{S: "12 34 56", In: 1}, 3, []int{2}}, {scan.Src{S: "12", In: -1}, 2, []int{12}}, {scan.Src{S: "12\n\n34", In: least}, 3, []int{12}}, {scan.Src{S: "12\n\n34", In: 3}, 6, []int{34}}} {
		got, to, more, e := checkWord(t, New(), x.src)
		if !more || e != 0 || to != (scan.Src{S: x.src.S, In: x.in}) || !slices.Equal(got.S.T.D, x.d) {
			t.Error(x, to, got.S.T.D, more, e)
		}
	}
	throws(t, New(), "x", -13)
	throws(t, New(), "x y", -13)
}

// P15.3: comments

func TestComments(t *testing.T) {
	for _, s := range []Sys{New(), defining(1)} {
		for _, x := range []struct{ s, left string }{
			{"( a ) b", " b"}, {"( a) b", " b"}, {"( ) b", " b"}, {"(\n) b", " b"}, {"(  a \" \n\\ ( b ) c ) d", " c ) d"}, {"( a", ""}, {"(", ""}, {"( ", ""}, {"( a )", ""}, {"( a )b", "b"},
			{"\\ a b\nc", "c"}, {"\\ \nc", "c"}, {"\\ a", ""}, {"\\", ""}, {"\\ a\r\nc", "c"}, {"\\ a ) ( \n\nc", "\nc"}, {"\\\ta\nc", "c"},
			// The word goes behind the blank that ends it, also where that is the end of a line.
			{"\\\na\nc", "c"}, {"(\n a\n) c", " c"},
		} {
			if got, left := goes(t, s, x.s); left != x.left || differ(got, s) != "" {
				t.Errorf("%q: left is %q, want %q; differs in [%s]", x.s, left, x.left, differ(got, s))
			}
		}
	}
	checkRows(t, []row{{"1 ( 2 ) 3 \\ 4 ( \n 5", []int{1, 3, 5}, "", 0}, {": a ( 1 2 ) 3 \\ 4\n ; a", []int{3}, "", 0}, {"1 ( 2 3", []int{1}, "", 0}, {": a ( 2 ; a", nil, "", 0}, {"() 1", nil, "", -13}, {"(1) 1", nil, "", -13}, {"\\1\n", nil, "", -13}, {"\\\\ 1", nil, "", -13}})
}

// P15.3: texts

func TestPrintText(t *testing.T) {
	checkRows(t, []row{
		{".\" you\"", nil, "you", 0}, {".\" a b  c\" 1", []int{1}, "a b  c", 0}, {".\" \" 1", []int{1}, "", 0}, {".\"  \" 1", []int{1}, " ", 0}, {".\"", nil, "", 0}, {".\" no end", nil, "no end", 0}, {".\" a\".\" b\"", nil, "ab", 0}, {".\" a\"1", []int{1}, "a", 0}, {".\" ( \\\n)\"", nil, "( \\\n)", 0}, {".\" a\x00\xff\x80\"", nil, "a\x00\xff\x80", 0}, {".\"\nx\"", nil, "x", 0},
		{": m .\" in\" ; m m", nil, "inin", 0}, {": m .\" \" ; m", nil, "", 0}, {": m .\" no end", nil, "", 0}, {": m .\" a\" [ .\" now\" ] .\" b\" ; m", nil, "nowab", 0},
	})
	s, left := goes(t, at(7), ".\" abc\" rest")
	if s.S.Out != "abc" || s.Here != 7 || left != " rest" || len(s.S.T.D) != 0 {
		t.Error(s.S.Out, s.Here, left)
	}
}

func TestPrintTextFull(t *testing.T) {
	for _, x := range []struct {
		was, more int
		e         api.Throw
	}{{0, 1000, 0}, {0, 1001, -8}, {997, 3, 0}, {998, 3, -8}, {1000, 0, 0}, {1000, 1, -8}, {1001, 0, -8}} {
		s, text := New(), ".\" "+strings.Repeat("x", x.more)+"\" rest"
		s.S.Out = strings.Repeat("o", x.was)
		if x.e != 0 {
			throws(t, s, text, x.e)
			continue
		}
		if got, left := goes(t, s, text); len(got.S.Out) != x.was+x.more || left != " rest" {
			t.Error(x, len(got.S.Out), left)
		}
	}
}

func TestTextsCompiled(t *testing.T) {
	s := defining(1)
	s.Here = 5
	s = lays(t, s, "S\" hey\" rest", code(lits(5, 3))...)
	if s.Here != 8 || string(s.S.M[4:9]) != "\x00hey\x00" || len(s.S.T.D) != 0 {
		t.Error(s.Here, s.S.M[:9], s.S.T.D)
	}
	s = lays(t, s, ".\" you \" rest", code(lits(8, 4), ins(op.Type))...)
	if s.Here != 12 || string(s.S.M[5:13]) != "heyyou \x00" || s.S.Out != "" {
		t.Error(s.Here, s.S.M[:13], s.S.Out)
	}
	s = lays(t, s, "s\" \"", lits(12, 0)...)
	s = lays(t, s, ".\" \"", code(lits(12, 0), ins(op.Type))...)
	if s.Here != 12 {
		t.Error(s.Here)
	}
}

func TestText(t *testing.T) {
	checkRows(t, []row{{"s\" hey\"", []int{0, 3}, "", 0}, {"S\" hey\" s\" you\" here", []int{0, 3, 3, 3, 6}, "", 0}, {"s\" \" here", []int{0, 0, 0}, "", 0}, {"s\" no end", []int{0, 6}, "", 0}, {"s\"", []int{0, 0}, "", 0}, {"s\" hey\" type", nil, "hey", 0}, {": a s\" hey\" ; a type a swap .", []int{3}, "hey0 ", 0}, {"s\" a\" drop c@", []int{97}, "", 0}})
	// What lies there goes, and nothing else does.
	s := at(3)
	for k := range 20 {
		s.S.M[k] = 200
	}
	if s, _ = goes(t, s, "s\" \x01\xff\""); s.Here != 5 || !slices.Equal(s.S.M[:7], []byte{200, 200, 200, 1, 255, 200, 200}) {
		t.Error(s.Here, s.S.M[:7])
	}
}

func TestTextsRoom(t *testing.T) {
	for _, here := range []int{0, 2040, 2047, 2048} {
		fits, not := strings.Repeat("x", 2048-here), strings.Repeat("x", 2049-here)
		s := at(here)
		def := defining(1)
		def.Here = here
		throws(t, s, "s\" "+not+"\"", -8)
		throws(t, def, "s\" "+not+"\"", -8)
		throws(t, def, ".\" "+not+"\"", -8)
		if got, _ := goes(t, s, "s\" "+fits+"\""); got.Here != 2048 || !slices.Equal(got.S.T.D, []int{here, len(fits)}) || string(got.S.M[here:2049]) != fits+"\x00" {
			t.Error(here, got.Here, got.S.T.D)
		}
		if got := lays(t, def, "s\" "+fits+"\"", lits(here, len(fits))...); got.Here != 2048 || string(got.S.M[here:2049]) != fits+"\x00" {
			t.Error(here, got.Here)
		}
		if got := lays(t, def, ".\" "+fits+"\"", code(lits(here, len(fits)), ins(op.Type))...); got.Here != 2048 || string(got.S.M[here:2049]) != fits+"\x00" {
			t.Error(here, got.Here)
		}
		// Without Comp ." needs no room in the data.
		if len(not) <= 1000 {
			if got, _ := goes(t, s, ".\" "+not+"\""); got.S.Out != not || got.Here != here {
				t.Error(here, got.Here)
			}
		}
	}
	// Room comes ahead of the stack, and of the thread.
	full := filled(64)
	throws(t, full, "s\" a\"", -3)
	throws(t, filled(63), "s\" a\"", -3)
	full.Here = 2048
	throws(t, full, "s\" a\"", -8)
	throws(t, full, "s\" \"", -3)
	if got, _ := goes(t, filled(62), "s\" a\""); len(got.S.T.D) != 64 {
		t.Error(got.S.T.D)
	}
}

// P15.3: bytes, and what is found

func TestChar(t *testing.T) {
	checkRows(t, []row{{"char xyz", []int{120}, "", 0}, {"char A char a", []int{65, 97}, "", 0}, {"CHAR \xff char \x21", []int{255, 33}, "", 0}, {"char", nil, "", -16}, {"char ", nil, "", -16}, {": q [char] z [CHAR] ( ; q", []int{122, 40}, "", 0}, {": q char z [ 1 ; q", nil, "", -14}, {"char )", []int{41}, "", 0}})
	throws(t, New(), "char \n", -16)
	throws(t, New(), "[char] x", -14)
	throws(t, New(), "[char]", -14)
	throws(t, defining(1), "[char]", -16)
	throws(t, defining(1), "char", -16)
	throws(t, filled(64), "char x", -3)
	throws(t, filled(64), "char", -16)
	throws(t, defining(4096), "[char] x", -8)
	lays(t, defining(4095), "[char] x", lits(120)...)
	lays(t, defining(1), "[CHAR] \x80", lits(128)...)
	if s, left := goes(t, filled(63), "char xy z"); len(s.S.T.D) != 64 || s.S.T.D[63] != 120 || left != "z" {
		t.Error(s.S.T.D, left)
	}
	// Within a definition CHAR pushes at once.
	if s, _ := goes(t, defining(1), "char x"); len(s.B.Code) != 1 || !slices.Equal(s.S.T.D, []int{120}) {
		t.Error(s.B.Code, s.S.T.D)
	}
}

func TestTick(t *testing.T) {
	dup, _ := dict.Find(dict.Base(), "DUP")
	checkRows(t, []row{{"' dup ' DUP", []int{dup, dup}, "", 0}, {"3 ' dup execute", []int{3, 3}, "", 0}, {": a 1 ; : a 2 ; ' a execute", []int{2}, "", 0}, {"'", nil, "", -16}, {"' zzz", nil, "", -13}, {": q ['] dup ; 3 q execute", []int{3, 3}, "", 0}, {"' if", nil, "", -13}, {"' char", nil, "", -13}, {"' (lit)", nil, "", -13}, {"' 5", nil, "", -13}, {": a 1 ; immediate ' a", []int{102}, "", 0}, {"variable v 5 constant k create c ' v ' k ' c", []int{102, 103, 104}, "", 0}, {": a ' a", nil, "", -13}})
	throws(t, New(), "['] dup", -14)
	throws(t, New(), "[']", -14)
	throws(t, New(), "['] zzz", -14)
	throws(t, defining(1), "[']", -16)
	throws(t, defining(1), "['] zzz", -13)
	throws(t, defining(4096), "['] zzz", -13)
	throws(t, defining(4096), "['] dup", -8)
	throws(t, filled(64), "' dup", -3)
	throws(t, filled(64), "' zzz", -13)
	throws(t, filled(64), "'", -16)
	lays(t, defining(4095), "['] dup", lits(dup)...)
	lays(t, defining(1), "['] exit", lits(0)...)
	if s, _ := goes(t, defining(1), "' dup"); len(s.B.Code) != 1 || !slices.Equal(s.S.T.D, []int{dup}) {
		t.Error(s.B.Code, s.S.T.D)
	}
}

// P15.3: definitions

func TestColon(t *testing.T) {
	s := withThreads(5)
	s.B.Code = ins(op.Dup, op.Drop)
	s.Def = dict.Entry{Name: "OLD", Kind: dict.Var}
	got, left := goes(t, s, ": nEw rest")
	if got.Def != (dict.Entry{Name: "NEW", Kind: dict.Colon, P: api.Place{Th: 5}}) || !got.Comp || len(got.B.Code) != 0 || left != "rest" || len(got.P.Words) != 102 || len(got.P.Threads) != 5 {
		t.Error(got.Def, got.Comp, got.B.Code, left)
	}
	for _, n := range []int{1, 2, 30, 31} {
		name := strings.Repeat("x", n)
		if got, _ := goes(t, New(), ": "+name); got.Def.Name != strings.ToUpper(name) {
			t.Error(n, got.Def)
		}
		checkRows(t, []row{{": " + name + " 5 ; " + name, []int{5}, "", 0}})
	}
	for _, text := range []string{":", ": ", ": \n", ": " + strings.Repeat("x", 32), ": " + strings.Repeat("x", 500)} {
		throws(t, New(), text, -16)
		throws(t, defining(1), text, -22)
	}
	throws(t, defining(0), ": a", -22)
	// Names of all bytes that are no blanks are names.
	checkRows(t, []row{{": ( 5 ;", nil, "", 0}, {": \x7f\xff 5 ; \x7f\xff", []int{5}, "", 0}, {": 7 8 ; 7", []int{8}, "", 0}, {": 7 8 9 + ; 7 8", []int{17, 8}, "", 0}, {": dup 5 ; 1 dup", []int{1, 5}, "", 0}, {": if 5 ; if", nil, "", -14}, {": a : b", nil, "", -22}})
	// A definition that was halted makes way for another one.
	checkRows(t, []row{{": a 1 [ : b 2 ; b", []int{2}, "", 0}, {": a 1 [ : b 2 ; a", nil, "", -13}})
}

func TestSemicolon(t *testing.T) {
	s := defining(2)
	s.P.Threads = [][]api.Ins{ins(op.Exit)}
	s.Def = dict.Entry{Name: "DEF", Kind: dict.Colon, P: api.Place{Th: 1}}
	got, left := goes(t, s, "; rest")
	if got.Comp || len(got.B.Code) != 0 || got.Def != (dict.Entry{}) || last(got) != s.Def || len(got.P.Words) != 103 || len(got.P.Threads) != 2 || !slices.Equal(got.P.Threads[1], ins(op.Dup, op.Dup, op.Exit)) || left != "rest" {
		t.Error(got.Comp, got.B, got.Def, got.P.Threads, left)
	}
	// What Def is besides, it stays.
	s.Def = dict.Entry{Name: "DEF", Imm: true, Kind: dict.Con, Val: 77}
	if got, _ := goes(t, s, ";"); last(got) != s.Def || len(got.P.Threads) != 2 {
		t.Error(last(got))
	}
	checkRows(t, []row{{": a ; a", nil, "", 0}, {": a 5 ; : b a a + ; b", []int{10}, "", 0}, {";", nil, "", -14}, {": a if ;", nil, "", -22}, {": a begin ;", nil, "", -22}, {": a 0 0 do ;", nil, "", -22}, {": a 1 [ ;", nil, "", -14}, {": a 1 [ 2 ] ; a", []int{2, 1}, "", 0}})
	throws(t, New(), ";", -14)
}

func TestSemicolonFull(t *testing.T) {
	closing := func(s Sys, n int) Sys {
		d := defining(n)
		s.Comp, s.Def, s.B = true, d.Def, d.B
		return s
	}
	open := closing(New(), 4095)
	open.B.Marks = []flow.Mark{{Kind: flow.Dest}}
	for _, x := range []struct {
		s Sys
		e api.Throw
	}{
		{closing(New(), 0), 0}, {closing(New(), 4095), 0}, {closing(New(), 4096), -8}, {open, -22},
		{closing(withThreads(999), 1), 0}, {closing(withThreads(1000), 1), -8},
		{closing(withWords(511), 1), 0}, {closing(withWords(512), 1), -8}, {closing(withWords(0), 1), 0},
	} {
		if x.e != 0 {
			throws(t, x.s, ";", x.e)
			continue
		}
		got, _ := goes(t, x.s, ";")
		if n := len(x.s.P.Threads); len(got.P.Threads) != n+1 || len(got.P.Threads[n]) != len(x.s.B.Code)+1 || len(got.P.Words) != len(x.s.P.Words)+1 || last(got).Name != "DEF" {
			t.Error(len(got.P.Threads), len(got.P.Words))
		}
	}
	marked := closing(withThreads(1000), 1)
	marked.B.Marks = open.B.Marks
	throws(t, marked, ";", -22)
}

// P15.3: CONSTANT and VARIABLE

func TestConstant(t *testing.T) {
	checkRows(t, []row{{"5 constant k k k", []int{5, 5}, "", 0}, {"1 2 Constant K k", []int{1, 2}, "", 0}, {"-9223372036854775808 constant k k 9223372036854775807 constant l l", []int{least, greatest}, "", 0}, {"constant", nil, "", -16}, {"5 constant", nil, "", -16}, {"constant k", nil, "", -4}, {"5 constant k 6 constant k k", []int{6}, "", 0}, {": a [ 5 constant k ] k ; a", []int{5}, "", 0}, {"5 constant " + strings.Repeat("k", 32), nil, "", -16}})
	throws(t, New(), "constant", -16)
	throws(t, New(), "constant k", -4)
	throws(t, New(), "constant "+strings.Repeat("k", 32), -4)
	throws(t, filled(3), "constant", -16)
	throws(t, filled(3), "constant "+strings.Repeat("k", 32), -16)
	for n, e := range map[int]api.Throw{511: 0, 512: -8} {
		s := withWords(n)
		throws(t, s, "constant k", -4)
		s.S.T.D = []int{7, 8}
		if e != 0 {
			throws(t, s, "constant k", e)
			throws(t, s, "constant "+strings.Repeat("k", 32), -16)
			continue
		}
		got, left := goes(t, s, "constant k l")
		if last(got) != (dict.Entry{Name: "K", Kind: dict.Con, Val: 8}) || !slices.Equal(got.S.T.D, []int{7}) || len(got.P.Words) != 512 || left != "l" || got.Here != 0 {
			t.Error(last(got), got.S.T.D, left)
		}
	}
	// Within a definition it is done at once.
	s := defining(1)
	s.S.T.D = []int{5}
	if got, _ := goes(t, s, "constant "+strings.Repeat("k", 31)); last(got).Val != 5 || !got.Comp || len(got.B.Code) != 1 || len(got.S.T.D) != 0 {
		t.Error(last(got), got.B.Code)
	}
}

func TestVariable(t *testing.T) {
	checkRows(t, []row{{"variable v v @", []int{0}, "", 0}, {"variable v 7 v ! 2 v +! v @", []int{9}, "", 0}, {"variable v variable w v w here", []int{0, 8, 16}, "", 0}, {"3 allot variable v v here", []int{8, 16}, "", 0}, {"9 0 ! variable v v @", []int{0}, "", 0}, {"variable", nil, "", -16}, {": a [ variable v ] v ; a", []int{0}, "", 0}})
	for here, want := range map[int]int{0: 0, 1: 8, 7: 8, 8: 8, 9: 16, 2033: 2040, 2040: 2040, 2041: -1, 2047: -1, 2048: -1} {
		s := at(here)
		for k := range 2056 {
			s.S.M[k] = 200
		}
		if want < 0 {
			throws(t, s, "variable v", -8)
			throws(t, s, "variable "+strings.Repeat("v", 32), -8)
			throws(t, s, "variable", -16)
			continue
		}
		got, left := goes(t, s, "variable v w")
		if last(got) != (dict.Entry{Name: "V", Kind: dict.Var, Val: want}) || got.Here != want+8 || left != "w" || len(got.S.T.D) != 0 {
			t.Error(here, last(got), got.Here, left)
		}
		for k := range 2056 {
			if zero := k >= want && k < want+8; (got.S.M[k] == 0) != zero {
				t.Error(here, "at", k, "is", got.S.M[k])
			}
		}
		throws(t, s, "variable "+strings.Repeat("v", 32), -16)
	}
	throws(t, New(), "variable", -16)
	throws(t, withWords(512), "variable v", -8)
	if got, _ := goes(t, withWords(511), "variable v"); len(got.P.Words) != 512 {
		t.Error(len(got.P.Words))
	}
	if got, _ := goes(t, defining(1), "variable v"); last(got).Kind != dict.Var || !got.Comp || len(got.B.Code) != 1 {
		t.Error(last(got), got.B.Code)
	}
}

// P15.3: words within a definition alone

func TestWithin(t *testing.T) {
	s := New()
	s.Def = dict.Entry{Name: "DEF", Kind: dict.Colon}
	for _, s := range []Sys{New(), s, filled(64), withWords(0)} {
		for _, w := range strings.Fields("[CHAR] ['] ; DOES> RECURSE POSTPONE LITERAL [ IF ELSE THEN BEGIN AGAIN UNTIL WHILE REPEAT DO ?DO LOOP +LOOP LEAVE") {
			throws(t, s, w, -14)
			throws(t, s, w+" zzz", -14)
			throws(t, s, strings.ToLower(w)+" dup", -14)
		}
	}
}

func TestDoes(t *testing.T) {
	lays(t, defining(1), "does> rest", ins(op.Does)...)
	lays(t, defining(4095), "DOES>", ins(op.Does)...)
	throws(t, defining(4096), "does>", -8)
	for _, text := range []string{"if", "begin", "0 0 do", "begin while"} {
		s := after(t, ": a "+text)
		throws(t, s, "does>", -22)
		s.B.Code = slices.Concat(s.B.Code, make([]api.Ins, 4096-len(s.B.Code)))
		throws(t, s, "does>", -22)
	}
	checkRows(t, []row{
		{": con create , does> @ ; 9 con n 8 con m n m n", []int{9, 8, 9}, "", 0}, {": arr create cells allot does> swap cells + ; 3 arr z 8 1 z ! 1 z @ 1 z 0 z -", []int{8, 8}, "", 0},
		{": a 1 ; : con create a , does> a swap @ a ; con n : b 2 ; n b", []int{1, 1, 1, 2}, "", 0}, {": w create does> does> 5 ; w v v v", nil, "", -22}, {": w create 7 , does> @ does> drop 9 ; w v v", nil, "", -22}, {": d does> 3 ; create v d v", []int{0, 3}, "", 0}, {": d does> 3 ; variable v d v", []int{0, 3}, "", 0}, {": d does> 3 ; d", nil, "", -22}, {": d does> 3 ; 5 constant k d", nil, "", -22}, {": if? if exit then does> 1 ; create v -1 if? v 0 if? v", []int{0, 0, 1}, "", 0},
	})
}

func TestRecurse(t *testing.T) {
	checkRows(t, []row{{": f dup 1 > if dup 1- recurse * then ; 5 f", []int{120}, "", 0}, {": f 1 ; : f dup if 1- recurse then ; 3 f", []int{0}, "", 0}, {": f recurse ; f", nil, "", -5}, {": a ; : f dup if 1- recurse then ; 3 f", []int{0}, "", 0}})
	for _, p := range []api.Place{{}, {Th: 3}, {Th: 3, At: 9}, {Th: 1000000, At: 4095}} {
		s := defining(1)
		s.Def.P = p
		lays(t, s, "recurse rest", api.Ins{Op: op.Call, Arg: 4096*p.Th + p.At})
	}
	s := defining(1)
	s.Def = dict.Entry{Name: "V", Kind: dict.Var, P: api.Place{Th: -1}}
	lays(t, s, "recurse", api.Ins{Op: op.Call, Arg: -1})
	lays(t, defining(4095), "RECURSE", call(0)...)
	throws(t, defining(4096), "recurse", -8)
}

// known is a system that has words of each kind, Imm and not, and compiles.
func known() Sys {
	s := defining(1)
	s.P.Threads = [][]api.Ins{code(lits(5), ins(op.Exit)), code(ins(op.Fetch, op.Exit)), lits(9)}
	for k, imm := range []bool{false, true} {
		i := strconv.Itoa(k)
		s.P.Words = append(s.P.Words, dict.Entry{Name: "PRIM" + i, Imm: imm, Val: op.Depth}, dict.Entry{Name: "COLON" + i, Imm: imm, Kind: dict.Colon}, dict.Entry{Name: "VAR" + i, Imm: imm, Kind: dict.Var, Val: 24}, dict.Entry{Name: "CON" + i, Imm: imm, Kind: dict.Con, Val: least}, dict.Entry{Name: "DOES" + i, Imm: imm, Kind: dict.Does, Val: 4096, P: api.Place{Th: 1}}, dict.Entry{Name: "BAD" + i, Imm: imm, Kind: 5}, dict.Entry{Name: "LOST" + i, Imm: imm, Kind: dict.Colon, P: api.Place{Th: -1}}, dict.Entry{Name: "FAR" + i, Imm: imm, Kind: dict.Colon, P: api.Place{Th: 900}})
	}
	return s
}

func TestPostpone(t *testing.T) {
	s := known()
	for k, name := range []string{"prim0", "colon0", "var0", "con0", "does0", "bad0", "lost0", "far0"} {
		lays(t, s, "postpone "+name+" rest", code(lits(102+k), ins(op.Compile))...)
	}
	lays(t, s, "postpone prim1", ins(op.Depth)...)
	lays(t, s, "POSTPONE COLON1", call(0)...)
	lays(t, s, "postpone var1", lits(24)...)
	lays(t, s, "postpone con1", lits(least)...)
	lays(t, s, "postpone does1", code(lits(4096), call(1))...)
	lays(t, s, "postpone far1", call(900)...)
	for w, e := range map[string]api.Throw{"": -16, "zzz": -13, "bad1": -13, "lost1": -13, "5": -13, "if": -13, "literal": -13, "(": -13} {
		throws(t, s, "postpone "+w, e)
		full := s
		full.B.Code = defining(4096).B.Code
		throws(t, full, "postpone "+w, e)
	}
	for n, e := range map[int]api.Throw{4094: 0, 4095: -8, 4096: -8} {
		s.B.Code = defining(n).B.Code
		if e != 0 {
			throws(t, s, "postpone prim0", e)
		} else {
			lays(t, s, "postpone prim0", code(lits(102), ins(op.Compile))...)
		}
	}
	s.B.Code = defining(4095).B.Code
	lays(t, s, "postpone prim1", ins(op.Depth)...)
	throws(t, s, "postpone does1", -8)
	checkRows(t, []row{{": p postpone dup ; immediate : r p + ; 3 r", []int{6}, "", 0}, {": i2 7 ; immediate : j2 postpone i2 ; j2", []int{7}, "", 0}, {": p postpone dup ; p", nil, "", -14}, {": a 5 ; : p postpone a ; immediate : b p p ; b", []int{5, 5}, "", 0}, {"6 constant k : p postpone k ; immediate : b p ; b", []int{6}, "", 0}, {": lit, postpone literal ;", nil, "", -13}})
}

func TestLiteral(t *testing.T) {
	for _, x := range []int{0, -1, 77, least, greatest} {
		s := defining(1)
		s.S.T.D = []int{5, x}
		if got := lays(t, s, "literal rest", lits(x)...); !slices.Equal(got.S.T.D, []int{5}) {
			t.Error(got.S.T.D)
		}
	}
	throws(t, defining(1), "literal", -4)
	throws(t, defining(4096), "literal", -4)
	s := defining(4096)
	s.S.T.D = cells(2)
	throws(t, s, "literal", -8)
	s.B.Code = s.B.Code[:4095]
	lays(t, s, "LITERAL", lits(101)...)
	checkRows(t, []row{{": l [ 2 3 + ] literal ; l l", []int{5, 5}, "", 0}, {"7 : l literal ; l", []int{7}, "", 0}, {": l literal", nil, "", -4}})
}

func TestBrackets(t *testing.T) {
	s := defining(3)
	got, left := goes(t, s, "[ rest")
	if got.Comp || left != "rest" {
		t.Error(got.Comp, left)
	}
	back, _ := goes(t, got, "] rest")
	if d := differ(back, s); d != "" {
		t.Error("differs in", d)
	}
	got.Comp = true
	if d := differ(got, s); d != "" {
		t.Error("[ changes", d)
	}
	if got, _ := goes(t, s, "]"); differ(got, s) != "" {
		t.Error("within a definition ] changes nothing")
	}
	throws(t, New(), "]", -22)
	throws(t, New(), "] rest", -22)
	checkRows(t, []row{{": a 1 [ 2 ] 3 ; a", []int{2, 1, 3}, "", 0}, {": a ; ]", nil, "", -22}, {": a [ ] ; a", nil, "", 0}, {": a if [ ] then 5 ; 1 a", []int{5}, "", 0}})
}

// P15.3: words that lead

func TestLeading(t *testing.T) {
	checkRows(t, []row{
		{": t if 1 else 2 then ; 0 t -1 t", []int{2, 1}, "", 0}, {": t IF 1 THEN 2 ; 0 t 5 t", []int{2, 1, 2}, "", 0}, {": c 0 ?do i . loop ; 3 c 0 c", nil, "0 1 2 ", 0}, {": c 0 do i . loop ; 3 c", nil, "0 1 2 ", 0}, {": w begin dup while dup . 1- repeat drop ; 3 w 0 w", nil, "3 2 1 ", 0}, {": u begin dup . 1- dup 0= until drop ; 2 u", nil, "2 1 ", 0}, {": a begin 1- dup 0= if exit then again ; 9 a", []int{0}, "", 0}, {": p 10 0 do i . 4 +loop ; p", nil, "0 4 8 ", 0}, {": l 10 0 do i dup . 3 = if leave then loop 7 ; l", []int{7}, "0 1 2 3 ", 0}, {": j2 2 0 do 2 0 do j . i . loop loop ; j2", nil, "0 0 0 1 1 0 1 1 ", 0},
	})
	for _, x := range []struct {
		s, w string
		e    api.Throw
	}{{"", "else", -22}, {"", "then", -22}, {"", "again", -22}, {"", "until", -22}, {"", "while", -22}, {"", "repeat", -22}, {"", "loop", -22}, {"", "+loop", -22}, {"", "leave", -22}, {"begin", "then", -22}, {"if", "again", -22}, {"begin", "repeat", -22}, {"0 0 do", "until", -22}, {"if", "loop", -22}} {
		throws(t, after(t, ": a "+x.s), x.w, x.e)
	}
	for _, w := range []string{"if", "IF", "while", "do", "?do", "leave", "else", "repeat", "until", "again", "loop", "+loop"} {
		s := defining(4096)
		s.B.Marks = map[string][]flow.Mark{"while": {{Kind: flow.Dest}}, "leave": {{Kind: flow.Loop}}, "else": {{Kind: flow.Orig}}, "repeat": {{Kind: flow.Orig}, {Kind: flow.Dest}}, "until": {{Kind: flow.Dest}}, "again": {{Kind: flow.Dest}}, "loop": {{Kind: flow.Loop}}, "+loop": {{Kind: flow.Loop}}}[w]
		throws(t, s, w, -8)
	}
	// What is built is what layer 8 tells, word by word.
	s, b := defining(0), flow.Build{}
	for _, w := range strings.Fields("if begin while repeat else do ?do leave loop leave +loop then begin until begin again") {
		var e api.Throw
		if b, _, e = flow.Word(b, w); e != 0 {
			t.Fatal(w, e)
		}
		s, _ = goes(t, s, w+" rest")
		if !slices.Equal(s.B.Code, b.Code) || !slices.Equal(s.B.Marks, b.Marks) || !slices.Equal(s.B.Outs, b.Outs) {
			t.Error(w, s.B, b)
		}
	}
}

// P15.3: words that are found

func TestFoundCompiled(t *testing.T) {
	s := known()
	s.S.T.D = []int{1, 2}
	lays(t, s, "prim0 rest", ins(op.Depth)...)
	lays(t, s, "Colon0", call(0)...)
	lays(t, s, "var0", lits(24)...)
	lays(t, s, "con0", lits(least)...)
	lays(t, s, "does0", code(lits(4096), call(1))...)
	lays(t, s, "far0", call(900)...)
	lays(t, s, "dup", ins(op.Dup)...)
	lays(t, s, "create", ins(op.Create)...)
	throws(t, s, "bad0", -13)
	throws(t, s, "lost0", -13)
	throws(t, s, "bad1", -13)
	throws(t, s, "lost1", -13)
	for name, d := range map[string][]int{"prim1": {1, 2, 2}, "colon1": {1, 2, 5}, "var1": {1, 2, 24}, "con1": {1, 2, least}, "does1": {1, 2, 10}} {
		got, left := goes(t, s, name+" rest")
		if !slices.Equal(got.S.T.D, d) || len(got.B.Code) != 1 || !got.Comp || left != "rest" {
			t.Error(name, got.S.T.D, got.B.Code, left)
		}
	}
	for n, e := range map[int]api.Throw{4094: 0, 4095: -8} {
		s.B.Code = defining(n).B.Code
		if e != 0 {
			throws(t, s, "does0", e)
			lays(t, s, "prim0", ins(op.Depth)...)
		} else {
			lays(t, s, "does0", code(lits(4096), call(1))...)
		}
	}
	s.B.Code = defining(4096).B.Code
	throws(t, s, "prim0", -8)
	throws(t, s, "bad0", -13)
	if got, _ := goes(t, s, "prim1"); len(got.S.T.D) != 3 {
		t.Error(got.S.T.D)
	}
}

func TestFoundRun(t *testing.T) {
	s := known()
	s.Comp, s.S.T.D = false, []int{1, 2}
	for name, d := range map[string][]int{"prim": {1, 2, 2}, "colon": {1, 2, 5}, "var": {1, 2, 24}, "con": {1, 2, least}, "does": {1, 2, 10}} {
		for _, imm := range []string{"0", "1"} {
			got, left := goes(t, s, name+imm+" rest")
			if !slices.Equal(got.S.T.D, d) || len(got.B.Code) != 1 || got.Comp || left != "rest" || len(got.P.Threads) != 3 {
				t.Error(name, got.S.T.D, got.B.Code, left)
			}
		}
	}
	for _, name := range []string{"bad0", "bad1", "lost0", "lost1"} {
		throws(t, s, name, -13)
	}
	// The last one of a name is found, ahead of a number, behind the interpreter's own words and those that lead.
	s.P.Words = append(s.P.Words, dict.Entry{Name: "5", Kind: dict.Con, Val: 55}, dict.Entry{Name: "CON0", Kind: dict.Con, Val: 66}, dict.Entry{Name: "CHAR", Kind: dict.Con, Val: 77}, dict.Entry{Name: "IF", Kind: dict.Con, Val: 88}, dict.Entry{Name: "small", Kind: dict.Con, Val: 99})
	for text, x := range map[string]int{"5": 55, "con0": 66, "char !": 33} {
		if got, _ := goes(t, s, text); got.S.T.D[2] != x {
			t.Error(text, got.S.T.D)
		}
	}
	throws(t, s, "if", -14)
	throws(t, s, "small", -13)
}

// Where a word is run, the system and the text are as that leaves them, with a throw, too.
func TestRunThrows(t *testing.T) {
	s := after(t, "variable v : z 7 v ! 1 . 8 allot 5 6 0 / ; : y create 9 -20 throw ; : x immediate 1 3 throw ; immediate", "1 2")
	got, to, more, e := checkWord(t, s, scan.Src{S: "gone z rest", In: 4})
	if !more || e != -10 || to.In != 7 || got.S.M[0] != 7 || got.S.Out != "1 " || got.Here != 16 || !slices.Equal(got.S.T.D, []int{1, 2, 5, 6, 0}) || !slices.Equal(got.S.T.R, []int{-2}) {
		t.Error(more, e, to, got.S.M[:8], got.S.Out, got.Here, got.S.T)
	}
	got, to, more, e = checkWord(t, s, scan.Src{S: "y name rest"})
	if !more || e != -20 || to.In != 7 || last(got) != (dict.Entry{Name: "NAME", Kind: dict.Var, Val: 8}) || !slices.Equal(got.S.T.D, []int{1, 2, 9, -20}) {
		t.Error(more, e, to, last(got), got.S.T.D)
	}
	got, to, more, e = checkWord(t, s, scan.Src{S: "y  "})
	if !more || e != -16 || to.In != 2 || differ(got, s) != "" {
		t.Error(more, e, to, differ(got, s))
	}
	got, to, more, e = checkWord(t, s, scan.Src{S: "drop drop", In: 4})
	if !more || e != 0 || to.In != 9 || !slices.Equal(got.S.T.D, []int{1}) {
		t.Error(more, e, to, got.S.T.D)
	}
	def := s
	def.Comp, def.Def, def.B.Code = true, dict.Entry{Name: "DEF", Kind: dict.Colon}, ins(op.Dup)
	got, to, more, e = checkWord(t, def, scan.Src{S: "x rest"})
	if !more || e != 3 || to.In != 2 || !got.Comp || got.Def != def.Def || len(got.B.Code) != 1 || !slices.Equal(got.S.T.D, []int{1, 2, 1, 3}) {
		t.Error(more, e, to, got.Comp, got.B.Code, got.S.T.D)
	}
}

// P15.3: numbers

func TestNumbers(t *testing.T) {
	checkRows(t, []row{
		{"0 7 -7 007", []int{0, 7, -7, 7}, "", 0}, {"12. -12.", []int{12, 0, -12, -1}, "", 0}, {"$ff %101 #10 $-FF $FF.", []int{255, 5, 10, -255, 255, 0}, "", 0}, {"hex ff FF #16 %11 decimal 16", []int{255, 255, 16, 3, 16}, "", 0}, {"2 base ! 101 decimal", []int{5}, "", 0}, {"36 base ! zz Z decimal", []int{1295, 35}, "", 0}, {"'a' 'A' ''' '1'", []int{97, 65, 39, 49}, "", 0}, {"9223372036854775807 9223372036854775808 -9223372036854775808 18446744073709551616", []int{greatest, least, least, 0}, "", 0}, {"18446744073709551616.", []int{0, 1}, "", 0},
		{"ff", nil, "", -13}, {"1a", nil, "", -13}, {"-", nil, "", -4}, {"--1", nil, "", -13}, {"1..", nil, "", -13}, {"$", nil, "", -13}, {"%2", nil, "", -13}, {"+1", nil, "", -13}, {"1,000", nil, "", -13}, {"''", nil, "", -13}, {"'ab'", nil, "", -13}, {"2 base ! 2", nil, "", -13},
		{": n 5 -6 $ff 'b' ; n", []int{5, -6, 255, 98}, "", 0}, {": n 12. ; n", []int{12, 0}, "", 0}, {": n [ hex ] ff [ decimal ] 10 ; n", []int{255, 10}, "", 0},
	})
	lays(t, defining(1), "-5 rest", lits(-5)...)
	lays(t, defining(1), "-5.", lits(-5, -1)...)
	lays(t, defining(4094), "5.", lits(5, 0)...)
	lays(t, defining(4095), "5", lits(5)...)
	throws(t, defining(4095), "5.", -8)
	throws(t, defining(4096), "5", -8)
	throws(t, defining(4096), "zzz", -13)
	for n, x := range map[int]struct{ one, two api.Throw }{62: {0, 0}, 63: {0, -3}, 64: {-3, -3}} {
		for text, e := range map[string]api.Throw{"5": x.one, "5.": x.two} {
			if e != 0 {
				throws(t, filled(n), text, e)
			} else if got, _ := goes(t, filled(n), text); got.S.T.D[n] != 5 || len(got.S.T.D) != n+len(text) {
				t.Error(n, text, got.S.T.D)
			}
		}
		throws(t, filled(n), "zzz", -13)
	}
}

func TestBases(t *testing.T) {
	for _, base := range []int{-1, 0, 1, 37, least, greatest} {
		s, e := checkEval(t, New(), strconv.Itoa(base)+" 4992 !")
		if e != 0 {
			t.Fatal(e)
		}
		for _, text := range []string{"5", "zzz", "$5", "'a'", "5."} {
			throws(t, s, text, -24)
			s.S.T.D = cells(64)
			throws(t, s, text, -24)
			s.S.T.D = nil
		}
		throws(t, s, "if", -14)
		if got, _ := goes(t, s, "depth"); !slices.Equal(got.S.T.D, []int{0}) {
			t.Error(base, got.S.T.D)
		}
	}
	// The base is that of the host, not of another task.
	for _, at := range []string{"4096", "4864"} {
		if s, e := checkEval(t, New(), "0 "+at+" ! 12"); e != 0 || !slices.Equal(s.S.T.D, []int{12}) {
			t.Error(at, s.S.T.D, e)
		}
	}
	for base := 2; base <= 36; base++ {
		if s, e := checkEval(t, New(), strconv.Itoa(base)+" base ! 10 100"); e != 0 || !slices.Equal(s.S.T.D, []int{base, base * base}) {
			t.Error(base, s.S.T.D, e)
		}
	}
}

// Whatever a word is, what it is in small letters it is in capitals.
func TestCapitals(t *testing.T) {
	for _, w := range words() {
		if w[0] == '\'' || strings.Contains(w, " ") {
			continue
		}
		for _, s := range []Sys{New(), defining(2), filled(5)} {
			small, _, _, e1 := checkWord(t, s, scan.Src{S: strings.ToLower(w) + " 7 7"})
			big, _, _, e2 := checkWord(t, s, scan.Src{S: strings.ToUpper(w) + " 7 7"})
			if differ(small, big) != "" || e1 != e2 {
				t.Error(w, differ(small, big), e1, e2)
			}
		}
	}
}
