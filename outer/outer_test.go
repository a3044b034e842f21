package outer

import (
	"bytes"
	"math"
	"slices"
	"strconv"
	"strings"
	"testing"

	"tenterhook/api"
	"tenterhook/dict"
	"tenterhook/flow"
	"tenterhook/op"
	"tenterhook/ret"
	"tenterhook/scan"
)

const (
	least    = math.MinInt
	greatest = math.MaxInt
)

// differ tells the fields in which two systems are not alike. Lists without elements are, nil or not.
func differ(a, b Sys) string {
	var out []string
	for _, x := range []struct {
		name string
		same bool
	}{
		{"Threads", slices.EqualFunc(a.P.Threads, b.P.Threads, slices.Equal)}, {"Words", slices.Equal(a.P.Words, b.P.Words)}, {"Lib", a.P.Lib == b.P.Lib},
		{"D", slices.Equal(a.S.T.D, b.S.T.D)}, {"R", slices.Equal(a.S.T.R, b.S.T.R)}, {"P", a.S.T.P == b.S.T.P}, {"H", a.S.T.H == b.S.T.H},
		{"M", bytes.Equal(a.S.M, b.S.M)}, {"Out", a.S.Out == b.S.Out}, {"Me", a.S.Me == b.S.Me}, {"Tick", a.S.Tick == b.S.Tick}, {"Hist", slices.Equal(a.S.Hist, b.S.Hist)},
		{"Comp", a.Comp == b.Comp}, {"Code", slices.Equal(a.B.Code, b.B.Code)}, {"Marks", slices.Equal(a.B.Marks, b.B.Marks)}, {"Outs", slices.Equal(a.B.Outs, b.B.Outs)}, {"Def", a.Def == b.Def}, {"Here", a.Here == b.Here},
	} {
		if !x.same {
			out = append(out, x.name)
		}
	}
	return strings.Join(out, " ")
}

// roomy is a list with room behind its end, in which stands what nobody is to touch.
func roomy[E any](l []E, other E) []E {
	out := append(slices.Clone(l), other, other, other, other, other, other)
	return out[:len(l)]
}

// behind is a list with the room behind it.
func behind[E any](l []E) []E { return slices.Clone(l[:cap(l)]) }

// roomySys is a system whose lists have room behind their ends.
func roomySys(s Sys) Sys {
	other := api.Ins{Op: 7001}
	threads := slices.Clone(s.P.Threads)
	for k := range threads {
		threads[k] = roomy(threads[k], other)
	}
	s.P.Threads, s.P.Words = roomy(threads, nil), roomy(s.P.Words, dict.Entry{Name: "R"})
	s.S.T.D, s.S.T.R = roomy(s.S.T.D, 7002), roomy(s.S.T.R, 7003)
	s.S.M, s.S.Hist = roomy(s.S.M, 77), roomy(s.S.Hist, api.Event{Task: 7004})
	s.B.Code, s.B.Marks, s.B.Outs = roomy(s.B.Code, other), roomy(s.B.Marks, flow.Mark{Kind: 7005}), roomy(s.B.Outs, flow.Mark{Kind: 7006})
	return s
}

// wholeSys is a system with the room behind its lists.
func wholeSys(s Sys) Sys {
	threads := behind(s.P.Threads)
	for k := range threads {
		threads[k] = behind(threads[k])
	}
	s.P.Threads, s.P.Words = threads, behind(s.P.Words)
	s.S.T.D, s.S.T.R, s.S.M, s.S.Hist = behind(s.S.T.D), behind(s.S.T.R), behind(s.S.M), behind(s.S.Hist)
	s.B.Code, s.B.Marks, s.B.Outs = behind(s.B.Code), behind(s.B.Marks), behind(s.B.Outs)
	return s
}

// handed is a system that is handed in, and what tells whether it is as it was.
func handed(t *testing.T, s Sys, what string) (Sys, func()) {
	in := roomySys(s)
	kept := wholeSys(in)
	return in, func() {
		t.Helper()
		if d := differ(wholeSys(in), kept); d != "" {
			t.Errorf("%.60q: what was handed in is changed: %s", what, d)
		}
	}
}

// checkWord holds a word against the model, and what was handed in against what it was.
func checkWord(t *testing.T, s Sys, src scan.Src) (Sys, scan.Src, bool, api.Throw) {
	t.Helper()
	want, wantSrc, wantMore, wantE := modelWord(s, src)
	in, asItWas := handed(t, s, scan.Left(src))
	got, to, more, e := Word(in, src)
	asItWas()
	if d := differ(got, want); d != "" || to != wantSrc || more != wantMore || e != wantE {
		t.Errorf("%.60q at %d: differs in [%s]; In %d, %v, %d, want %d, %v, %d", src.S, src.In, d, to.In, more, int(e), wantSrc.In, wantMore, int(wantE))
	}
	if !Sane(got) {
		t.Errorf("%.60q at %d: what is answered may not be", src.S, src.In)
	}
	return got, to, more, e
}

// checkDo holds a run likewise.
func checkDo(t *testing.T, s Sys, src scan.Src, l []api.Ins) (Sys, scan.Src, api.Throw) {
	t.Helper()
	want, wantSrc, wantE := modelDo(s, src, l)
	in, asItWas := handed(t, s, scan.Left(src))
	row := roomy(l, api.Ins{Op: 7007})
	kept := behind(row)
	got, to, e := Do(in, src, row)
	asItWas()
	if !slices.Equal(kept, behind(row)) {
		t.Errorf("%.60v: the row is changed", l)
	}
	if d := differ(got, want); d != "" || to != wantSrc || e != wantE {
		t.Errorf("%.60v, %.60q: differs in [%s]; In %d, %d, want %d, %d", l, src.S, d, to.In, int(e), wantSrc.In, int(wantE))
	}
	if !Sane(got) {
		t.Errorf("%.60v: what is answered may not be", l)
	}
	return got, to, e
}

// checkEval holds a text against the model, as a whole and word by word.
func checkEval(t *testing.T, s Sys, text string) (Sys, api.Throw) {
	t.Helper()
	want, wantE := modelEval(s, text)
	in, asItWas := handed(t, s, text)
	got, e := Eval(in, text)
	asItWas()
	if d := differ(got, want); d != "" || e != wantE {
		t.Errorf("%.60q: differs in [%s]; %d, want %d", text, d, int(e), int(wantE))
	}
	if !Sane(got) {
		t.Errorf("%.60q: what is answered may not be", text)
	}
	return got, e
}

// after is a new system behind texts that throw nothing.
func after(t *testing.T, texts ...string) Sys {
	t.Helper()
	s := New()
	for _, text := range texts {
		var e api.Throw
		if s, e = checkEval(t, s, text); e != 0 {
			t.Fatalf("%.60q: throws %d", text, int(e))
		}
	}
	return s
}

// filled is a new system with n cells on its stack.
func filled(n int) Sys {
	s := New()
	s.S.T.D = cells(n)
	return s
}

// at is a new system with such a Here.
func at(here int) Sys {
	s := New()
	s.Here = here
	return s
}

// defining is a new system that compiles a definition, whose thread has n instructions by now.
func defining(n int) Sys {
	s := New()
	s.Comp, s.Def = true, dict.Entry{Name: "DEF", Kind: dict.Colon}
	s.B.Code = make([]api.Ins, n)
	for k := range s.B.Code {
		s.B.Code[k].Op = op.Dup
	}
	return s
}

// cells are n cells that are told apart.
func cells(n int) []int {
	out := make([]int, n)
	for k := range out {
		out[k] = 100 + k
	}
	return out
}

// withWords is a new system that has n words.
func withWords(n int) Sys {
	s := New()
	for k := len(s.P.Words); k < n; k++ {
		s.P.Words = append(s.P.Words, dict.Entry{Name: "W" + strconv.Itoa(k), Kind: dict.Con, Val: k})
	}
	s.P.Words = s.P.Words[:n]
	return s
}

// withThreads is a new system that has n threads.
func withThreads(n int) Sys {
	s := New()
	for range n {
		s.P.Threads = append(s.P.Threads, []api.Ins{{Op: op.Exit}})
	}
	return s
}

// last is the last word.
func last(s Sys) dict.Entry { return s.P.Words[len(s.P.Words)-1] }

// row is what a text comes to: the stack, the output, and the throw.
type row struct {
	s   string
	d   []int
	out string
	e   api.Throw
}

// checkRows holds texts in a new system against what they come to.
func checkRows(t *testing.T, rows []row) {
	t.Helper()
	for _, x := range rows {
		s, e := checkEval(t, New(), x.s)
		if !slices.Equal(s.S.T.D, x.d) || s.S.Out != x.out || e != x.e {
			t.Errorf("%.60q: %v %q %d, want %v %q %d", x.s, s.S.T.D, s.S.Out, int(e), x.d, x.out, int(x.e))
		}
	}
}

// P15.1

func TestNew(t *testing.T) {
	s := New()
	if len(s.P.Words) != 102 || s.P.Words[0] != (dict.Entry{Name: "EXIT", Val: 4}) || last(s) != (dict.Entry{Name: "IMMEDIATE", Val: 110}) || len(s.P.Threads) != 0 || s.P.Lib != 0 {
		t.Error(s.P)
	}
	if d := differ(s, modelNew()); d != "" {
		t.Error("differs in", d)
	}
	for k, b := range s.S.M {
		want := byte(0)
		if k >= 4096 && k%128 == 0 {
			want = 10
		}
		if b != want {
			t.Error("at", k, "is", b)
		}
	}
	if len(s.S.M) != 5120 || len(s.S.T.D) != 0 || !slices.Equal(s.S.T.R, []int{-2}) || s.S.T.P != (api.Place{}) || s.S.T.H != 0 || s.S.Me != -1 {
		t.Error(len(s.S.M), s.S.T, s.S.Me)
	}
	if s.S.Out != "" || s.S.Tick != 0 || len(s.S.Hist) != 0 || s.Comp || len(s.B.Code)+len(s.B.Marks)+len(s.B.Outs) != 0 || s.Def != (dict.Entry{}) || s.Here != 0 {
		t.Error("there is more than there should be")
	}
	if !Sane(s) || Sane(Sys{}) {
		t.Error("a new one may be, one of nothing may not")
	}
}

// sound are changes behind which a system may be.
func sound() map[string]func(s *Sys) {
	def := dict.Entry{Name: "A", Kind: dict.Colon, P: api.Place{Th: 7, At: 9}}
	return map[string]func(s *Sys){
		"none":                      func(s *Sys) {},
		"D of 64":                   func(s *Sys) { s.S.T.D = cells(64) },
		"R of 64":                   func(s *Sys) { s.S.T.R = cells(64) },
		"no R":                      func(s *Sys) { s.S.T.R = nil },
		"H of 3":                    func(s *Sys) { s.S.T.R, s.S.T.H = cells(3), 3 },
		"the last place":            func(s *Sys) { s.S.T.P = api.Place{Th: 1000000, At: 4095} },
		"B of 4096":                 func(s *Sys) { s.B.Code = make([]api.Ins, 4096) },
		"a mark at the end":         func(s *Sys) { s.B.Marks = []flow.Mark{{Kind: flow.Dest}} },
		"B without a definition":    func(s *Sys) { s.B.Code = make([]api.Ins, 3) },
		"Here of 0":                 func(s *Sys) { s.Here = 0 },
		"Here of 2047":              func(s *Sys) { s.Here = 2047 },
		"Here of 2048":              func(s *Sys) { s.Here = 2048 },
		"no words":                  func(s *Sys) { s.P.Words = nil },
		"512 words, all of nothing": func(s *Sys) { s.P.Words = make([]dict.Entry, 512) },
		"1000 threads of nothing":   func(s *Sys) { s.P.Threads = make([][]api.Ins, 1000) },
		"Def":                       func(s *Sys) { s.Def = def },
		"Def and Comp":              func(s *Sys) { s.Def, s.Comp = def, true },
		"Def of a Con and Comp":     func(s *Sys) { s.Def, s.Comp = dict.Entry{Name: "C", Imm: true, Kind: dict.Con, Val: 5}, true },
		"much else":                 func(s *Sys) { s.P.Lib, s.S.Tick, s.S.Out = greatest, least, strings.Repeat("o", 1001) },
		"too many events":           func(s *Sys) { s.S.Hist = make([]api.Event, 401) },
		"no base":                   func(s *Sys) { s.S.M = make([]byte, 5120) },
	}
}

// spoilt are changes behind which it may not be.
func spoilt() map[string]func(s *Sys) {
	def := dict.Entry{Name: "A", Kind: dict.Colon}
	return map[string]func(s *Sys){
		"Me of 0":             func(s *Sys) { s.S.Me = 0 },
		"Me of -2":            func(s *Sys) { s.S.Me = -2 },
		"no M":                func(s *Sys) { s.S.M = nil },
		"M of 5119":           func(s *Sys) { s.S.M = s.S.M[:5119] },
		"M of 5121":           func(s *Sys) { s.S.M = append(s.S.M, 0) },
		"D of 65":             func(s *Sys) { s.S.T.D = cells(65) },
		"R of 65":             func(s *Sys) { s.S.T.R = cells(65) },
		"H of 1":              func(s *Sys) { s.S.T.H = 1 },
		"H above R":           func(s *Sys) { s.S.T.R, s.S.T.H = cells(3), 4 },
		"no such thread":      func(s *Sys) { s.S.T.P.Th = -1 },
		"too high a thread":   func(s *Sys) { s.S.T.P.Th = 1000001 },
		"no such place":       func(s *Sys) { s.S.T.P.At = 4096 },
		"B of 4097":           func(s *Sys) { s.B.Code = make([]api.Ins, 4097) },
		"a mark of no kind":   func(s *Sys) { s.B.Marks = []flow.Mark{{Kind: 4}} },
		"a mark of nothing":   func(s *Sys) { s.B.Marks = []flow.Mark{{Kind: flow.Orig}} },
		"an out of no loop":   func(s *Sys) { s.B.Code, s.B.Outs = make([]api.Ins, 1), []flow.Mark{{Kind: 1}} },
		"Here of -1":          func(s *Sys) { s.Here = -1 },
		"Here of 2049":        func(s *Sys) { s.Here = 2049 },
		"the least Here":      func(s *Sys) { s.Here = least },
		"the greatest Here":   func(s *Sys) { s.Here = greatest },
		"513 words":           func(s *Sys) { s.P.Words = make([]dict.Entry, 513) },
		"1001 threads":        func(s *Sys) { s.P.Threads = make([][]api.Ins, 1001) },
		"Comp without Def":    func(s *Sys) { s.Comp = true },
		"Def without a name":  func(s *Sys) { s.Def = dict.Entry{Kind: dict.Colon} },
		"Def that is Imm":     func(s *Sys) { s.Def = dict.Entry{Imm: true} },
		"Def of a place":      func(s *Sys) { s.Def.P.Th = 1 },
		"small letters":       func(s *Sys) { s.Def = dict.Entry{Name: "a", Kind: dict.Colon} },
		"small, and Comp":     func(s *Sys) { s.Def, s.Comp = dict.Entry{Name: "a", Kind: dict.Colon}, true },
		"a blank in the name": func(s *Sys) { s.Def = dict.Entry{Name: "A B", Kind: dict.Colon} },
		"a name of 32":        func(s *Sys) { s.Def = dict.Entry{Name: strings.Repeat("A", 32), Kind: dict.Colon} },
		"Def of no kind":      func(s *Sys) { s.Def = dict.Entry{Name: "A", Kind: 5} },
		"Def at no place":     func(s *Sys) { s.Def, s.Comp = def, true; s.Def.P.At = -1 },
		"Def of no operation": func(s *Sys) { s.Def = dict.Entry{Name: "A", Val: op.Lit} },
	}
}

func TestSane(t *testing.T) {
	for name, change := range sound() {
		s := New()
		change(&s)
		if !Sane(s) {
			t.Error(name, "may be")
		}
	}
	for name, change := range spoilt() {
		s := New()
		change(&s)
		if Sane(s) {
			t.Error(name, "may not be")
		}
	}
}

func TestTaken(t *testing.T) {
	for name, change := range spoilt() {
		s := after(t, ": before 5 ; 1 2 variable v 3 v !", ".\" said\"")
		change(&s)
		for _, text := range []string{"", "7 8 +", ": a 1", "drop", "nothing", ": ;", "before", "create x here", "1 0 /", "v"} {
			want, wantE := checkEval(t, New(), text)
			if got, e := checkEval(t, s, text); differ(got, want) != "" || e != wantE {
				t.Error(name, text, differ(got, want), e)
			}
			src := scan.Src{S: text}
			want, wantSrc, wantMore, wantE := checkWord(t, New(), src)
			if got, to, more, e := checkWord(t, s, src); differ(got, want) != "" || to != wantSrc || more != wantMore || e != wantE {
				t.Error(name, text, differ(got, want), to, more, e)
			}
		}
		if got, to, e := checkDo(t, s, scan.Src{S: "x"}, lits(5)); !slices.Equal(got.S.T.D, []int{5}) || to.In != 0 || e != 0 || len(got.P.Threads) != 0 || len(got.P.Words) != 102 || got.S.Out != "" {
			t.Error(name, got.S.T.D, e)
		}
		if got, _, e := checkDo(t, s, scan.Src{}, []api.Ins{{Op: op.Drop}}); differ(got, New()) != "" || e != -4 {
			t.Error(name, differ(got, New()), e)
		}
	}
	for name, change := range sound() {
		s := after(t, ": before 5 ; 1 2 variable v 3 v !", ".\" said\"")
		change(&s)
		for _, text := range []string{"", "( )", "7", ": a 1", "before", "nothing", "] ;", "create x"} {
			checkWord(t, s, scan.Src{S: text})
			if got, e := checkEval(t, s, text); e == 0 && len(got.S.M) == 5120 && got.S.T.P == (api.Place{}) && differ(got, New()) == "" && name != "none" {
				t.Error(name, text, "is taken for a new one")
			}
		}
	}
}

// P15.4

func TestEval(t *testing.T) {
	checkRows(t, []row{
		{"", nil, "", 0}, {" \t\r\n\x00 ", nil, "", 0}, {"1 2 +", []int{3}, "", 0}, {": sq dup * ; 5 sq .", nil, "25 ", 0}, {"1\x002\x1f3", []int{1, 2, 3}, "", 0},
		{"1 2 drop drop drop", nil, "", -4}, {"1 nothing 2", nil, "", -13}, {"1 . 2 0 / 3 .", nil, "1 ", -10}, {"7 throw 8", nil, "", 7}, {"-77 throw", nil, "", -77}, {"1 0 throw 2", []int{1, 2}, "", 0},
		{"1 2 3 7 throw 4", nil, "", 7}, {": a 5 nothing ;", nil, "", -13}, {": t -9 throw ; 4 5 ' t catch", []int{4, 5, -9}, "", 0}, {": t 1 2 3 0 / ; 4 ' t catch", []int{4, -10}, "", 0}, {": t 5 ; 4 ' t catch", []int{4, 5, 0}, "", 0},
		{": t -9 throw ; : u ['] t catch . t ; u", nil, "-9 ", -9}, {": t r> r> ; t", nil, "", -6},
	})
}

func TestEvalWordByWord(t *testing.T) {
	for _, text := range texts() {
		s, src, more, e := New(), scan.Src{S: text}, true, api.OK
		for more && e == 0 {
			s, src, more, e = checkWord(t, s, src)
		}
		want, wantE := checkEval(t, New(), text)
		if e != 0 {
			// What Word leaves behind a throw, without what Eval takes away.
			s.S.T, s.Comp, s.B, s.Def = ret.New(api.Place{}), false, flow.Build{}, dict.Entry{}
		}
		if d := differ(s, want); d != "" || e != wantE {
			t.Errorf("%.60q: differs in [%s]; %d, want %d", text, d, int(e), int(wantE))
		}
	}
}

func TestEvalInParts(t *testing.T) {
	s := after(t, ": a 1 dup")
	if !s.Comp || s.Def != (dict.Entry{Name: "A", Kind: dict.Colon}) || !slices.Equal(s.B.Code, []api.Ins{{Op: op.Lit, Arg: 1}, {Op: op.Dup}}) || len(s.P.Threads) != 0 || len(s.P.Words) != 102 {
		t.Error(s.Comp, s.Def, s.B.Code)
	}
	s, e := checkEval(t, s, "drop if 2 else 3 then ; a 4 a")
	if e != 0 || s.Comp || s.Def != (dict.Entry{}) || len(s.B.Code) != 0 || len(s.P.Threads) != 1 || !slices.Equal(s.S.T.D, []int{2, 4, 2}) {
		t.Error(s.Comp, s.Def, s.P.Threads, s.S.T.D, e)
	}
	// Wherever a text is cut between two words, both parts come to the same.
	text := ": fact dup 1 > if dup 1 - recurse * then ; : con create , does> @ ; 7 fact con n : u [ n 1 + ] literal . ; u variable v"
	whole := after(t, text)
	words := strings.Fields(text)
	for k := range words {
		switch words[max(k-1, 0)] {
		case ":", "con", "variable":
			continue // the word that is taken is to be in the same text
		}
		if parts := after(t, strings.Join(words[:k], " "), strings.Join(words[k:], " ")); differ(parts, whole) != "" {
			t.Error(words[:k], differ(parts, whole))
		}
	}
}

func TestEvalLeft(t *testing.T) {
	before := after(t, "5 constant k variable v : w 1 ; 9 9 9 .\" told\"")
	s, e := checkEval(t, before, "7 v ! create c 3 , : x 8 ; 1 2 .\" more\" : y if begin nothing ;")
	if e != -13 || len(s.S.T.D) != 0 || !slices.Equal(s.S.T.R, []int{-2}) || s.S.T.P != (api.Place{}) || s.S.T.H != 0 || s.Comp || s.Def != (dict.Entry{}) || len(s.B.Code)+len(s.B.Marks)+len(s.B.Outs) != 0 {
		t.Error(e, s.S.T, s.Comp, s.Def, s.B)
	}
	if s.S.Out != "toldmore" || len(s.P.Threads) != 2 || len(s.P.Words) != 107 || last(s).Name != "X" || s.Here != 16 || s.S.M[0] != 7 || s.S.M[8] != 3 {
		t.Error("what was done ahead of the throw is to be left:", s.S.Out, len(s.P.Threads), last(s), s.Here)
	}
	if s, e = checkEval(t, s, "k v @ c @ w x"); e != 0 || !slices.Equal(s.S.T.D, []int{5, 7, 3, 1, 8}) {
		t.Error(s.S.T.D, e)
	}
	// A throw within what is run: what was done by then is left, too.
	s, e = checkEval(t, before, ": z .\" insideit\" 1 v +! here 8 allot ! 0 throw -5 throw ; 4 z")
	if e != -5 || s.S.Out != "toldinsideit" || s.Here != 24 || s.S.M[0] != 1 || s.S.M[16] != 4 || len(s.S.T.D) != 0 || len(s.P.Threads) != 2 {
		t.Error(e, s.S.Out, s.Here, s.S.M[:24], s.S.T.D)
	}
	// What stood on the stacks ahead of a text is gone with its throw, and is there without one.
	forged := before
	forged.S.T = ret.Task{D: []int{1, 2}, R: []int{5, 6, 7, 8}, P: api.Place{Th: 4, At: 5}, H: 3}
	if s, e := checkEval(t, forged, "( nothing ) 3"); e != 0 || !slices.Equal(s.S.T.D, []int{1, 2, 3}) || len(s.S.T.R) != 4 || s.S.T.P != (api.Place{Th: 4, At: 5}) || s.S.T.H != 3 {
		t.Error(s.S.T, e)
	}
	if s, e := checkEval(t, forged, "dup"); e != 0 || !slices.Equal(s.S.T.D, []int{1, 2, 2}) || !slices.Equal(s.S.T.R, []int{-2}) || s.S.T.P != (api.Place{}) || s.S.T.H != 0 {
		t.Error("what is run leaves the cells alone:", s.S.T, e)
	}
	if s, e := checkEval(t, forged, "then"); e != -14 || len(s.S.T.D) != 0 || !slices.Equal(s.S.T.R, []int{-2}) || s.S.T.P != (api.Place{}) || s.S.T.H != 0 {
		t.Error(s.S.T, e)
	}
}

// P15.6

// checkEnds holds what is behind a text, whatever it is, against what is said of all.
func checkEnds(t *testing.T, s Sys, text string) Sys {
	t.Helper()
	s, e := checkEval(t, s, text)
	if e != 0 && (len(s.S.T.D) != 0 || !slices.Equal(s.S.T.R, []int{-2}) || s.S.T.H != 0 || s.Comp || s.Def != (dict.Entry{}) || len(s.B.Code)+len(s.B.Marks)+len(s.B.Outs) != 0) {
		t.Errorf("%.60q throws %d, and leaves %v, %v", text, int(e), s.S.T, s.Def)
	}
	return s
}

func TestAnyBytes(t *testing.T) {
	all := make([]byte, 256)
	for k := range all {
		all[k] = byte(k)
		checkEnds(t, New(), string(all[k:k+1]))
		checkEnds(t, New(), ": a "+string(all[k:k+1])+" 1 ; a")
		checkEnds(t, New(), ": "+string(all[k:k+1])+" 5 ; "+string(all[k:k+1]))
	}
	checkEnds(t, New(), string(all))
	slices.Reverse(all)
	checkEnds(t, New(), string(all))
	next := dice(1)
	for range 300 {
		b := make([]byte, next(40))
		for k := range b {
			b[k] = byte(next(256))
		}
		checkEnds(t, New(), string(b))
	}
}

func TestMixes(t *testing.T) {
	pool := words()
	next := dice(2)
	for range 1500 {
		var l []string
		for range next(60) {
			l = append(l, pool[next(len(pool))])
		}
		checkEnds(t, New(), strings.Join(l, " "))
	}
}

// TestLongMixes goes on behind each throw, with what Word leaves then.
func TestLongMixes(t *testing.T) {
	pool := words()
	next := dice(3)
	for range 40 {
		s := New()
		for range 400 {
			var l []string
			for range 3 {
				l = append(l, pool[next(len(pool))])
			}
			s, _, _, _ = checkWord(t, s, scan.Src{S: strings.Join(l, " ")})
		}
	}
}

func TestEnds(t *testing.T) {
	for _, text := range []string{": l begin again ; l", ": r recurse ; r", ": p begin pause again ; p", ": s begin 5 sleep again ; s", ": c begin here drop again ; c", ": d ['] d2 ; d", "create x : y does> ; y y y", "0 >r", "4096 >r", "-1 >r", "r>", "r> drop", "exit 1", ": e exit ; e e", "0 execute", "' execute execute", "5 0 do", ": q 5 0 do i . loop ; q q q", "bye bye", ": k 0 >r exit ; k", ": t begin ['] t catch drop again ; t"} {
		checkEnds(t, New(), text)
	}
	checkRows(t, []row{{": l begin again ; l", nil, "", -28}, {": r recurse ; r", nil, "", -5}, {": p begin pause again ; p", nil, "", -28}, {": s begin 5 sleep again ; s", nil, "", -28}, {": h begin here drop again ; h", nil, "", -28}})
	long := strings.Repeat("1 drop ( x ) ", 20000)
	if s, e := Eval(New(), long); e != 0 || len(s.S.T.D) != 0 {
		t.Error(e)
	}
}

// dice tells numbers, the same in each run, of 0 to below n.
func dice(seed uint64) func(n int) int {
	x := seed
	return func(n int) int {
		x = x*6364136223846793005 + 1442695040888963407
		return int(x >> 33 % uint64(n))
	}
}
