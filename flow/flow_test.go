package flow

import (
	"fmt"
	"math"
	"slices"
	"strings"
	"testing"

	"tenterhook/api"
	"tenterhook/op"
)

const (
	least    = math.MinInt
	greatest = math.MaxInt
)

// told is all that a call answers, as a text: so a list without elements is the same, nil or not.
func told(parts ...any) string { return fmt.Sprintln(parts...) }

// words are all that lead.
var words = []string{"IF", "ELSE", "THEN", "BEGIN", "AGAIN", "UNTIL", "WHILE", "REPEAT", "DO", "?DO", "LOOP", "+LOOP", "LEAVE"}

// spare are instructions and marks behind the end of a list that is handed in: no call may see or touch them.
const spare = 4

// code is of n instructions, no two of them the same, none of them one that leads, with room behind their end.
func code(n int) []api.Ins {
	out := make([]api.Ins, n+spare)
	for k := range out {
		out[k] = api.Ins{Op: op.Lit, Arg: 1000 + k}
	}
	return out[:n]
}

// marks are of pairs of a Kind and an At, with room behind their end.
func marks(pairs ...int) []Mark {
	var out []Mark
	for k := 0; k < len(pairs); k += 2 {
		out = append(out, Mark{pairs[k], pairs[k+1]})
	}
	for range spare {
		out = append(out, Mark{-7, -7})
	}
	return out[:len(pairs)/2]
}

// with is code of n instructions, other ones at some places, and others behind them.
func with(n int, at map[int]api.Ins, more ...api.Ins) []api.Ins {
	out := append(code(n), more...)
	for k, i := range at {
		out[k] = i
	}
	return out
}

// lit is the instruction at a place of code, with another Arg: as it is when that place is resolved.
func lit(arg int) api.Ins { return api.Ins{Op: op.Lit, Arg: arg} }

// built is what a text's words lead to, from nothing; one that does not lead is laid as Dup.
func built(t *testing.T, s string) Build {
	t.Helper()
	var b Build
	for w := range strings.FieldsSeq(s) {
		next, ok, e := Word(b, w)
		if !ok {
			next, e = Emit(b, api.Ins{Op: op.Dup})
		}
		if e != api.OK {
			t.Fatalf("%s: %s throws %d", s, w, e)
		}
		b = next
	}
	return b
}

// shown is a thread as a text: the names of operations, and their Args.
func shown(l []api.Ins) string {
	var out []string
	for _, i := range l {
		out = append(out, fmt.Sprint(strings.Trim(op.Name(i.Op), "()"), " ", i.Arg))
	}
	return strings.Join(out, ", ")
}

// copied is the same, also what is behind the ends, in memory of its own.
func copied(b Build) Build {
	return Build{slices.Clone(b.Code[:cap(b.Code)]), slices.Clone(b.Marks[:cap(b.Marks)]), slices.Clone(b.Outs[:cap(b.Outs)])}
}

// unchanged: is b, with what is behind its ends, the same as a copy of it?
func unchanged(b, was Build) bool {
	return slices.Equal(b.Code[:cap(b.Code)], was.Code) && slices.Equal(b.Marks[:cap(b.Marks)], was.Marks) && slices.Equal(b.Outs[:cap(b.Outs)], was.Outs)
}

// insane is a b that may not be, and why.
type insane struct {
	why string
	b   Build
}

// insanes are not sane in each way in which one may not be.
func insanes() []insane {
	out := []insane{
		{"Code of 4097", Build{Code: code(4097)}},
		{"Code of 4097, and marks", Build{code(4097), marks(Orig, 0, Loop, 1), marks(1, 2)}},
		{"Code of 10000", Build{Code: code(10000)}},
		{"no Code, an Orig", Build{Marks: marks(Orig, 0)}},
		{"no Code, one of Outs", Build{Marks: marks(Loop, 0), Outs: marks(1, 0)}},
		{"Outs, and no mark", Build{Code: code(3), Outs: marks(1, 0)}},
		{"Outs, and no Loop", Build{code(3), marks(Orig, 0, Dest, 1), marks(1, 0)}},
		{"Outs of one more than it is deep", Build{code(3), marks(Loop, 1, Dest, 1, Loop, 2), marks(1, 0, 2, 1, 3, 2)}},
		{"the first of Marks", Build{code(3), marks(4, 1, Orig, 1, Loop, 1), marks(1, 0)}},
		{"the last of Outs", Build{code(3), marks(Loop, 1), marks(1, 0, 1, 1, 1, 3)}},
	}
	for _, kind := range []int{0, 4, 5, -1, least, greatest, least + 1, 1<<32 + 1, 1<<32 + 3} {
		out = append(out, insane{fmt.Sprint("a mark of the Kind ", kind), Build{Code: code(3), Marks: marks(kind, 1)}})
		out = append(out, insane{fmt.Sprint("one more of the Kind ", kind), Build{code(3), marks(Loop, 1, kind, 1), marks(1, 0)}})
		out = append(out, insane{fmt.Sprint("one of Outs of the Kind ", kind), Build{code(3), marks(Loop, 1, Loop, 2), marks(1, 0, kind, 0)}})
	}
	for _, at := range []int{-1, 4, 5, least, greatest, least + 3, 1 << 32, 1<<32 + 1} {
		for _, kind := range []int{Orig, Dest, Loop} {
			out = append(out, insane{fmt.Sprint("a mark ", kind, " at ", at), Build{Code: code(3), Marks: marks(kind, at)}})
			out = append(out, insane{fmt.Sprint("one more mark ", kind, " at ", at), Build{code(3), marks(Loop, 0, kind, at), marks(1, 2)}})
		}
		out = append(out, insane{fmt.Sprint("one of Outs at ", at), Build{code(3), marks(Loop, 1), marks(1, at)}})
	}
	return append(out,
		insane{"an Orig at here", Build{Code: code(3), Marks: marks(Orig, 3)}},
		insane{"one of Outs at here", Build{code(3), marks(Loop, 3), marks(1, 3)}},
	)
}

// P8.1

func TestEmit(t *testing.T) {
	b := Build{code(2), marks(Orig, 1, Loop, 2), marks(1, 0)}
	a, c := api.Ins{Op: op.Dup, Arg: 7}, api.Ins{Op: least, Arg: greatest}
	for _, l := range [][]api.Ins{nil, {}, {a}, {c}, {a, c}, {c, a, a}, {{Op: op.Branch, Arg: -1}}} {
		want := Build{append(code(2), l...), b.Marks, b.Outs}
		if got := told(Emit(b, l...)); got != told(want, api.OK) {
			t.Errorf("Emit(%v, %v) = %s", b, l, got)
		}
		if got := told(Emit(Build{}, l...)); got != told(Build{Code: l}, api.OK) {
			t.Errorf("Emit of nothing and %v = %s", l, got)
		}
	}
	if got := told(Emit(b, a, c)); got != told(Build{append(code(2), a, c), b.Marks, b.Outs}, api.OK) {
		t.Error(got)
	}
}

func TestEmitUpToMaxCode(t *testing.T) {
	for _, n := range []int{0, 1, 2000, 4094, 4095, 4096} {
		b := Build{code(n), marks(Loop, 0), nil}
		for _, more := range []int{0, 1, 2, 3, 2096, 2097, 4095, 4096, 4097, 9000} {
			l := code(more)
			want := told(Build{slices.Concat(b.Code, l), b.Marks, nil}, api.OK)
			if n+more > 4096 {
				want = told(b, api.Full)
			}
			if got := told(Emit(b, l...)); got != want {
				t.Errorf("Emit of %d instructions behind %d", more, n)
			}
		}
	}
}

func TestSane(t *testing.T) {
	for k, b := range []Build{
		{}, {[]api.Ins{}, []Mark{}, []Mark{}}, {Code: code(1)}, {Code: code(4095)}, {Code: code(4096)}, {Code: []api.Ins{{Op: least, Arg: greatest}, {Op: -1, Arg: least}}},
		// Here, and nothing laid.
		{Marks: marks(Dest, 0)}, {Marks: marks(Loop, 0)}, {Marks: marks(Dest, 0, Loop, 0, Dest, 0)},
		{Code: code(3), Marks: marks(Orig, 0)}, {Code: code(3), Marks: marks(Orig, 2)}, {Code: code(3), Marks: marks(Dest, 0)}, {Code: code(3), Marks: marks(Dest, 2)}, {Code: code(3), Marks: marks(Dest, 3)},
		{Code: code(3), Marks: marks(Loop, 0)}, {Code: code(3), Marks: marks(Loop, 2)}, {Code: code(3), Marks: marks(Loop, 3)}, {Code: code(3), Marks: marks(Orig, 2, Orig, 2, Loop, 1, Dest, 0)},
		{code(3), marks(Loop, 1), marks(1, 0)}, {code(3), marks(Loop, 1), marks(1, 2)}, {code(3), marks(Loop, 1), marks(1, 2, 1, 2, 1, 0)},
		{code(3), marks(Loop, 1, Orig, 1, Loop, 0, Dest, 0), marks(1, 0, 2, 1)}, {code(3), marks(Orig, 0, Loop, 1, Loop, 1, Loop, 3), marks(3, 2, 1, 1, 2, 0)},
		{code(4096), marks(Orig, 4095, Dest, 4096, Loop, 4096), marks(1, 4095)},
	} {
		if !Sane(b) {
			t.Errorf("%d is not sane", k)
		}
	}
	for _, x := range insanes() {
		if Sane(x.b) {
			t.Errorf("sane: %s", x.why)
		}
	}
}

func TestSaneAtAllPlaces(t *testing.T) {
	const here = 4
	for at := -3; at <= here+3; at++ {
		below := at >= 0 && at < here
		for kind := -2; kind <= 6; kind++ {
			want := kind == Orig && below || (kind == Dest || kind == Loop) && (below || at == here)
			if got := Sane(Build{Code: code(here), Marks: marks(kind, at)}); got != want {
				t.Errorf("a mark of the Kind %d at %d: %v", kind, at, got)
			}
			for deep := range 4 {
				b := Build{Code: code(here), Marks: marks(Orig, 1), Outs: marks(kind, at)}
				for range deep {
					b.Marks = append(b.Marks, Mark{Loop, 2}, Mark{Dest, 2})
				}
				if got := Sane(b); got != (below && kind >= 1 && kind <= deep) {
					t.Errorf("one of Outs of the Kind %d at %d, %d deep: %v", kind, at, deep, got)
				}
			}
		}
	}
}

func TestOfOneThatIsNotSaneNothingIsTaken(t *testing.T) {
	texts := append([]string{"", "x", "dup", "i", "loop+", "\xff"}, words...)
	for _, x := range insanes() {
		for _, l := range [][]api.Ins{nil, code(1), code(4096), code(4097)} {
			if got := told(Emit(x.b, l...)); got != told(Emit(Build{}, l...)) {
				t.Errorf("%s: Emit of %d = %s", x.why, len(l), got)
			}
		}
		for _, w := range texts {
			if got := told(Word(x.b, w)); got != told(Word(Build{}, w)) {
				t.Errorf("%s: Word of %q = %s", x.why, w, got)
			}
		}
		if got := told(End(x.b)); got != told([]api.Ins{{Op: op.Exit}}, api.OK) {
			t.Errorf("%s: End = %s", x.why, got)
		}
	}
}

func TestOfOneThatIsNotSane(t *testing.T) {
	bad := Build{Code: code(5), Marks: marks(9, 0, Dest, 1)}
	for _, x := range []struct {
		w    string
		want Build
		ok   bool
		e    api.Throw
	}{
		{"dup", Build{}, false, api.OK}, {"begin", Build{Marks: marks(Dest, 0)}, true, api.OK}, {"if", Build{Code: []api.Ins{{Op: op.Zero}}, Marks: marks(Orig, 0)}, true, api.OK},
		{"again", Build{}, true, api.Control}, {"leave", Build{}, true, api.Control},
	} {
		if got := told(Word(bad, x.w)); got != told(x.want, x.ok, x.e) {
			t.Errorf("Word of %q = %s", x.w, got)
		}
	}
	if got := told(Emit(bad, code(4097)...)); got != told(Build{}, api.Full) {
		t.Errorf("Emit = %s", got)
	}
}

// P8.2

// effect is what a word makes of a b.
type effect struct {
	b    Build
	w    string
	want Build
}

func forkEffects() []effect {
	return []effect{
		{Build{}, "IF", Build{Code: []api.Ins{{Op: op.Zero}}, Marks: marks(Orig, 0)}},
		{Build{Code: code(3)}, "IF", Build{Code: with(3, nil, api.Ins{Op: op.Zero}), Marks: marks(Orig, 3)}},
		{Build{code(3), marks(Dest, 1, Loop, 2), marks(1, 1)}, "IF", Build{with(3, nil, api.Ins{Op: op.Zero}), marks(Dest, 1, Loop, 2, Orig, 3), marks(1, 1)}},
		{Build{Code: code(3), Marks: marks(Orig, 1)}, "ELSE", Build{Code: with(3, map[int]api.Ins{1: lit(4)}, api.Ins{Op: op.Branch}), Marks: marks(Orig, 3)}},
		{Build{Code: code(1), Marks: marks(Orig, 0)}, "ELSE", Build{Code: with(1, map[int]api.Ins{0: lit(2)}, api.Ins{Op: op.Branch}), Marks: marks(Orig, 1)}},
		{Build{code(3), marks(Orig, 0, Loop, 1, Orig, 2), marks(1, 2)}, "ELSE", Build{with(3, map[int]api.Ins{2: lit(4)}, api.Ins{Op: op.Branch}), marks(Orig, 0, Loop, 1, Orig, 3), marks(1, 2)}},
		{Build{Code: code(3), Marks: marks(Orig, 1)}, "THEN", Build{Code: with(3, map[int]api.Ins{1: lit(3)})}},
		{Build{Code: code(3), Marks: marks(Orig, 0)}, "THEN", Build{Code: with(3, map[int]api.Ins{0: lit(3)})}},
		{Build{Code: code(3), Marks: marks(Orig, 2)}, "THEN", Build{Code: with(3, map[int]api.Ins{2: lit(3)})}},
		{Build{code(3), marks(Loop, 1, Orig, 1, Orig, 0), marks(1, 2)}, "THEN", Build{with(3, map[int]api.Ins{0: lit(3)}), marks(Loop, 1, Orig, 1), marks(1, 2)}},
	}
}

func rangeEffects() []effect {
	return []effect{
		{Build{}, "BEGIN", Build{Marks: marks(Dest, 0)}},
		{Build{Code: code(3)}, "BEGIN", Build{Code: code(3), Marks: marks(Dest, 3)}},
		{Build{code(3), marks(Orig, 0, Loop, 1), marks(1, 2)}, "BEGIN", Build{code(3), marks(Orig, 0, Loop, 1, Dest, 3), marks(1, 2)}},
		{Build{Marks: marks(Dest, 0)}, "AGAIN", Build{Code: []api.Ins{{Op: op.Branch, Arg: 0}}}},
		{Build{Code: code(3), Marks: marks(Dest, 1)}, "AGAIN", Build{Code: with(3, nil, api.Ins{Op: op.Branch, Arg: 1})}},
		{Build{Code: code(3), Marks: marks(Dest, 3)}, "AGAIN", Build{Code: with(3, nil, api.Ins{Op: op.Branch, Arg: 3})}},
		{Build{code(3), marks(Orig, 0, Loop, 1, Dest, 2), marks(1, 2)}, "AGAIN", Build{with(3, nil, api.Ins{Op: op.Branch, Arg: 2}), marks(Orig, 0, Loop, 1), marks(1, 2)}},
		{Build{Marks: marks(Dest, 0)}, "UNTIL", Build{Code: []api.Ins{{Op: op.Zero, Arg: 0}}}},
		{Build{Code: code(3), Marks: marks(Dest, 1)}, "UNTIL", Build{Code: with(3, nil, api.Ins{Op: op.Zero, Arg: 1})}},
		{Build{code(3), marks(Orig, 0, Dest, 1, Dest, 3), nil}, "UNTIL", Build{with(3, nil, api.Ins{Op: op.Zero, Arg: 3}), marks(Orig, 0, Dest, 1), nil}},
		{Build{Marks: marks(Dest, 0)}, "WHILE", Build{Code: []api.Ins{{Op: op.Zero}}, Marks: marks(Orig, 0, Dest, 0)}},
		{Build{Code: code(3), Marks: marks(Dest, 1)}, "WHILE", Build{Code: with(3, nil, api.Ins{Op: op.Zero}), Marks: marks(Orig, 3, Dest, 1)}},
		{Build{code(3), marks(Loop, 0, Orig, 1, Dest, 2), marks(1, 0)}, "WHILE", Build{with(3, nil, api.Ins{Op: op.Zero}), marks(Loop, 0, Orig, 1, Orig, 3, Dest, 2), marks(1, 0)}},
		{Build{Code: code(3), Marks: marks(Orig, 1, Dest, 2)}, "REPEAT", Build{Code: with(3, map[int]api.Ins{1: lit(4)}, api.Ins{Op: op.Branch, Arg: 2})}},
		{Build{Code: code(3), Marks: marks(Orig, 2, Dest, 0)}, "REPEAT", Build{Code: with(3, map[int]api.Ins{2: lit(4)}, api.Ins{Op: op.Branch, Arg: 0})}},
		{Build{code(3), marks(Loop, 1, Orig, 1, Orig, 0, Dest, 3), marks(1, 2)}, "REPEAT", Build{with(3, map[int]api.Ins{0: lit(4)}, api.Ins{Op: op.Branch, Arg: 3}), marks(Loop, 1, Orig, 1), marks(1, 2)}},
	}
}

func loopEffects() []effect {
	return []effect{
		{Build{}, "DO", Build{Code: []api.Ins{{Op: op.Do}}, Marks: marks(Loop, 1)}},
		{Build{code(3), marks(Orig, 0, Loop, 1), marks(1, 2)}, "DO", Build{with(3, nil, api.Ins{Op: op.Do}), marks(Orig, 0, Loop, 1, Loop, 4), marks(1, 2)}},
		{Build{}, "?DO", Build{[]api.Ins{{Op: op.MayDo}}, marks(Loop, 1), marks(1, 0)}},
		{Build{code(3), marks(Orig, 0, Loop, 1, Dest, 1, Loop, 2), marks(1, 2)}, "?DO", Build{with(3, nil, api.Ins{Op: op.MayDo}), marks(Orig, 0, Loop, 1, Dest, 1, Loop, 2, Loop, 4), marks(1, 2, 3, 3)}},
		{Build{Marks: marks(Loop, 0)}, "LOOP", Build{Code: []api.Ins{{Op: op.Loop, Arg: 0}}}},
		{Build{Code: code(3), Marks: marks(Loop, 1)}, "LOOP", Build{Code: with(3, nil, api.Ins{Op: op.Loop, Arg: 1})}},
		{Build{code(3), marks(Loop, 3), marks(1, 0, 1, 2, 1, 0)}, "LOOP", Build{Code: with(3, map[int]api.Ins{0: lit(4), 2: lit(4)}, api.Ins{Op: op.Loop, Arg: 3})}},
		{Build{code(4), marks(Loop, 1, Orig, 0, Loop, 2), marks(2, 3, 1, 2, 2, 0, 1, 1)}, "LOOP", Build{with(4, map[int]api.Ins{3: lit(5), 0: lit(5)}, api.Ins{Op: op.Loop, Arg: 2}), marks(Loop, 1, Orig, 0), marks(1, 2, 1, 1)}},
		{Build{code(4), marks(Loop, 1, Loop, 2), marks(1, 2)}, "LOOP", Build{with(4, nil, api.Ins{Op: op.Loop, Arg: 2}), marks(Loop, 1), marks(1, 2)}},
		{Build{Marks: marks(Loop, 0)}, "+LOOP", Build{Code: []api.Ins{{Op: op.PlusLoop, Arg: 0}}}},
		{Build{code(4), marks(Dest, 0, Loop, 1, Orig, 0, Loop, 2), marks(2, 3, 1, 2, 2, 0, 1, 1)}, "+LOOP", Build{with(4, map[int]api.Ins{3: lit(5), 0: lit(5)}, api.Ins{Op: op.PlusLoop, Arg: 2}), marks(Dest, 0, Loop, 1, Orig, 0), marks(1, 2, 1, 1)}},
		{Build{Marks: marks(Loop, 0)}, "LEAVE", Build{[]api.Ins{{Op: op.Unloop}, {Op: op.Branch}}, marks(Loop, 0), marks(1, 1)}},
		{Build{code(3), marks(Loop, 1, Orig, 2), nil}, "LEAVE", Build{with(3, nil, api.Ins{Op: op.Unloop}, api.Ins{Op: op.Branch}), marks(Loop, 1, Orig, 2), marks(1, 4)}},
		{Build{code(3), marks(Loop, 1, Dest, 2, Loop, 2, Dest, 3), marks(2, 0, 1, 1)}, "LEAVE", Build{with(3, nil, api.Ins{Op: op.Unloop}, api.Ins{Op: op.Branch}), marks(Loop, 1, Dest, 2, Loop, 2, Dest, 3), marks(2, 0, 1, 1, 2, 4)}},
	}
}

func effects() []effect { return slices.Concat(forkEffects(), rangeEffects(), loopEffects()) }

func TestWhatEachWordDoes(t *testing.T) {
	met := map[string]bool{}
	for _, x := range effects() {
		met[x.w] = true
		if got := told(Word(x.b, x.w)); got != told(x.want, true, api.OK) {
			t.Errorf("%v, behind %s, = %s, not %v", x.b, x.w, got, x.want)
		}
	}
	if len(met) != len(words) {
		t.Errorf("effects of %d words", len(met))
	}
}

// mixes are a word with each of its letters small and in capitals, in all ways.
func mixes(word string) []string {
	out := []string{""}
	for k := range len(word) {
		c := word[k : k+1]
		var next []string
		for _, s := range out {
			next = append(next, s+c)
			if c >= "A" && c <= "Z" {
				next = append(next, s+strings.ToLower(c))
			}
		}
		out = next
	}
	return out
}

func TestSmallLettersAndCapitals(t *testing.T) {
	for _, x := range effects() {
		for _, w := range mixes(x.w) {
			if got := told(Word(x.b, w)); got != told(x.want, true, api.OK) {
				t.Errorf("%v, behind %s, = %s", x.b, w, got)
			}
		}
	}
}

// leadsNot: a text that is none of the words leaves b as it is.
func leadsNot(t *testing.T, w string) {
	t.Helper()
	for _, b := range []Build{{}, {code(3), marks(Orig, 0, Dest, 1, Loop, 2), marks(1, 1)}} {
		if got := told(Word(b, w)); got != told(b, false, api.OK) {
			t.Errorf("%v, behind %q, = %s", b, w, got)
		}
	}
}

func TestTextsThatAreNoWords(t *testing.T) {
	for _, w := range []string{
		"", " ", "\x00", "\n", "x", "dup", "exit", "i", "j", "unloop", ":", ";", "case", "of", "does>", "recurse", "(do)", "(?do)", "(loop)", "(+loop)", "(branch)", "(0branch)", "(lit)", "zero", "branch",
		" if", "if ", "\tif", "if\n", "if then", "i f", "-loop", "?loop", "+do", "??do", "++loop", "do?", "loop+", "?if", "?leave", "for", "next", "endif", "while repeat",
		// Other letters whose capital, or small letter, is one of A to Z.
		"el\u017fe", "\u0131f", "wh\u0131le", "aga\u0131n", "beg\u0130n", "\uff29\uff26", "if\u0301", "do\u00a0", "\xe9\xe6", "\xc9\xc6", "\xff", "\x80", "if\xff", "\xffif", "\xc9F",
		// Bytes that differ from those of a word in the digit that tells small letters from capitals.
		"\x1fDO", "\x0bLOOP", "_DO", "kloop", "\x7fDO",
	} {
		leadsNot(t, w)
	}
}

// textAsModel: is a text taken for a word just if it is one in capitals?
func textAsModel(t *testing.T, w string) {
	t.Helper()
	upper := strings.Map(func(r rune) rune {
		if r >= 'a' && r <= 'z' {
			return r - 32
		}
		return r
	}, w)
	if !slices.Contains(words, upper) {
		leadsNot(t, w)
	} else if _, ok, _ := Word(Build{}, w); !ok {
		t.Errorf("%q is none of the words", w)
	}
}

func TestPartsOfWords(t *testing.T) {
	for _, w := range words {
		for from := range len(w) {
			for to := from; to <= len(w); to++ {
				textAsModel(t, w[from:to])
				textAsModel(t, strings.ToLower(w[from:to]))
			}
		}
	}
}

func TestWordsWithOneByteMoreOrOther(t *testing.T) {
	for _, w := range words {
		for k := range len(w) + 1 {
			for c := range 256 {
				one := string([]byte{byte(c)})
				textAsModel(t, w[:k]+one+w[k:])
				if k < len(w) {
					textAsModel(t, w[:k]+one+w[k+1:])
				}
			}
		}
	}
}

func TestTwoWordsOneBehindTheOther(t *testing.T) {
	for _, a := range words {
		for _, b := range words {
			leadsNot(t, a+b)
			leadsNot(t, a+" "+b)
		}
	}
}

// need is what a word asks for: the Kinds of the marks on top, the top first, or that it is in a loop; and how many instructions it lays.
type need struct {
	w      string
	kinds  []int
	inLoop bool
	lays   int
}

var needs = []need{
	{"IF", nil, false, 1}, {"ELSE", []int{Orig}, false, 1}, {"THEN", []int{Orig}, false, 0}, {"BEGIN", nil, false, 0}, {"AGAIN", []int{Dest}, false, 1}, {"UNTIL", []int{Dest}, false, 1}, {"WHILE", []int{Dest}, false, 1},
	{"REPEAT", []int{Dest, Orig}, false, 1}, {"DO", nil, false, 1}, {"?DO", nil, false, 1}, {"LOOP", []int{Loop}, false, 1}, {"+LOOP", []int{Loop}, false, 1}, {"LEAVE", nil, true, 2},
}

// wanted is what a word throws, at these marks and so many instructions.
func (n need) wanted(m []Mark, here int) api.Throw {
	for k, kind := range n.kinds {
		if k >= len(m) || m[len(m)-1-k].Kind != kind {
			return api.Control
		}
	}
	if n.inLoop && !slices.ContainsFunc(m, func(x Mark) bool { return x.Kind == Loop }) {
		return api.Control
	}
	if here+n.lays > 4096 {
		return api.Full
	}
	return api.OK
}

// markLists are all of at most most marks, at one place.
func markLists(most, at int) [][]Mark {
	out := [][]Mark{nil}
	for k := 0; k < len(out) && len(out[k]) < most; k++ {
		for kind := Orig; kind <= Loop; kind++ {
			out = append(out, append(slices.Clone(out[k]), Mark{kind, at}))
		}
	}
	return out
}

func TestMarksThatAreAskedFor(t *testing.T) {
	for _, m := range markLists(4, 1) {
		b := Build{Code: code(2), Marks: m}
		for _, n := range needs {
			got, ok, e := Word(b, n.w)
			if want := n.wanted(m, 2); !ok || e != want {
				t.Errorf("%v, behind %s: %v, %d, not %d", b, n.w, ok, e, want)
			}
			if e != api.OK && told(got) != told(b) {
				t.Errorf("%v, behind %s, throws %d, and is %v", b, n.w, e, got)
			}
		}
	}
}

func TestFull(t *testing.T) {
	for _, here := range []int{4093, 4094, 4095, 4096} {
		for _, m := range markLists(3, here-1) {
			b := Build{Code: code(here), Marks: m}
			if slices.Contains(m, Mark{Loop, here - 1}) {
				b.Outs = marks(1, 7)
			}
			for _, n := range needs {
				got, ok, e := Word(b, n.w)
				if want := n.wanted(m, here); !ok || e != want {
					t.Errorf("Code of %d, marks %v, behind %s: %v, %d, not %d", here, m, n.w, ok, e, want)
				}
				if e != api.OK && told(got) != told(b) {
					t.Errorf("Code of %d, marks %v, is not as it was behind %s", here, m, n.w)
				}
				if e == api.OK && (len(got.Code) != here+n.lays || !Sane(got)) {
					t.Errorf("Code of %d, marks %v, has %d behind %s", here, m, len(got.Code), n.w)
				}
			}
		}
	}
}

func TestFullByName(t *testing.T) {
	loop := marks(Loop, 9)
	for _, x := range []struct {
		here int
		m    []Mark
		w    string
		e    api.Throw
	}{
		{4095, nil, "if", api.OK}, {4096, nil, "if", api.Full}, {4097, nil, "if", api.OK}, {4096, marks(Orig, 9), "else", api.Full}, {4096, marks(Orig, 9), "then", api.OK}, {4096, nil, "begin", api.OK},
		{4095, marks(Dest, 9), "again", api.OK}, {4096, marks(Dest, 9), "again", api.Full}, {4096, marks(Dest, 9), "until", api.Full}, {4096, marks(Dest, 9), "while", api.Full}, {4096, marks(Orig, 9, Dest, 9), "repeat", api.Full},
		{4096, nil, "do", api.Full}, {4095, nil, "?do", api.OK}, {4096, nil, "?do", api.Full}, {4095, loop, "loop", api.OK}, {4096, loop, "loop", api.Full}, {4096, loop, "+loop", api.Full},
		{4094, loop, "leave", api.OK}, {4095, loop, "leave", api.Full}, {4096, loop, "leave", api.Full},
		// Both might be told: a mark is asked for first.
		{4096, nil, "else", api.Control}, {4096, marks(Dest, 9), "else", api.Control}, {4096, marks(Orig, 9), "again", api.Control}, {4096, nil, "until", api.Control}, {4096, nil, "while", api.Control},
		{4096, marks(Dest, 9), "repeat", api.Control}, {4096, marks(Loop, 9, Dest, 9), "repeat", api.Control}, {4096, marks(Dest, 9), "loop", api.Control}, {4096, nil, "+loop", api.Control}, {4095, nil, "leave", api.Control}, {4096, nil, "leave", api.Control},
	} {
		if _, ok, e := Word(Build{Code: code(x.here), Marks: x.m}, x.w); !ok || e != x.e {
			t.Errorf("Code of %d, marks %v, behind %s: %v, %d, not %d", x.here, x.m, x.w, ok, e, x.e)
		}
	}
}

func TestControl(t *testing.T) {
	for _, x := range []struct{ ahead, w string }{
		{"", "else"}, {"begin", "else"}, {"do", "else"}, {"if begin", "else"}, {"", "then"}, {"begin", "then"}, {"do", "then"}, {"if do", "then"}, {"begin while", "then"},
		{"", "again"}, {"if", "again"}, {"do", "again"}, {"begin if", "again"}, {"", "until"}, {"if", "until"}, {"?do", "until"}, {"", "while"}, {"if", "while"}, {"do", "while"}, {"begin do", "while"},
		{"", "repeat"}, {"begin", "repeat"}, {"if", "repeat"}, {"do", "repeat"}, {"do begin", "repeat"}, {"begin begin", "repeat"}, {"begin if", "repeat"}, {"begin while if", "repeat"}, {"begin while repeat", "repeat"},
		{"", "loop"}, {"if", "loop"}, {"begin", "loop"}, {"do if", "loop"}, {"do begin", "loop"}, {"do loop", "loop"}, {"", "+loop"}, {"?do if", "+loop"}, {"begin", "+loop"},
		{"", "leave"}, {"if", "leave"}, {"begin", "leave"}, {"begin while", "leave"}, {"do loop", "leave"}, {"do loop if begin", "leave"},
	} {
		b := built(t, x.ahead)
		if got := told(Word(b, x.w)); got != told(b, true, api.Control) {
			t.Errorf("%s behind %q = %s", x.w, x.ahead, got)
		}
	}
}

func TestThreads(t *testing.T) {
	for _, x := range []struct{ s, want string }{
		{"", "EXIT 0"}, {"if then", "0BRANCH 1, EXIT 0"}, {"if x else x x then x", "0BRANCH 3, DUP 0, BRANCH 5, DUP 0, DUP 0, DUP 0, EXIT 0"}, {"if else then", "0BRANCH 2, BRANCH 2, EXIT 0"}, {"if else else then", "0BRANCH 2, BRANCH 3, BRANCH 3, EXIT 0"},
		{"begin again", "BRANCH 0, EXIT 0"}, {"x begin x again", "DUP 0, DUP 0, BRANCH 1, EXIT 0"}, {"x begin x until", "DUP 0, DUP 0, 0BRANCH 1, EXIT 0"}, {"begin x while x repeat", "DUP 0, 0BRANCH 4, DUP 0, BRANCH 0, EXIT 0"},
		{"do x loop", "DO 0, DUP 0, LOOP 1, EXIT 0"}, {"?do x loop", "?DO 3, DUP 0, LOOP 1, EXIT 0"}, {"x do +loop", "DUP 0, DO 0, +LOOP 2, EXIT 0"}, {"x ?do +loop", "DUP 0, ?DO 3, +LOOP 2, EXIT 0"}, {"do leave loop", "DO 0, UNLOOP 0, BRANCH 4, LOOP 1, EXIT 0"},
		// Words within words.
		{"if if then then", "0BRANCH 2, 0BRANCH 2, EXIT 0"}, {"if if x else x then x else x then", "0BRANCH 7, 0BRANCH 4, DUP 0, BRANCH 5, DUP 0, DUP 0, BRANCH 8, DUP 0, EXIT 0"}, {"if x then if x then", "0BRANCH 2, DUP 0, 0BRANCH 4, DUP 0, EXIT 0"},
		{"begin begin x until x until", "DUP 0, 0BRANCH 0, DUP 0, 0BRANCH 0, EXIT 0"}, {"begin x begin x again again", "DUP 0, DUP 0, BRANCH 1, BRANCH 0, EXIT 0"}, {"begin if x else x then again", "0BRANCH 3, DUP 0, BRANCH 4, DUP 0, BRANCH 0, EXIT 0"},
		{"begin while while repeat then", "0BRANCH 3, 0BRANCH 3, BRANCH 0, EXIT 0"}, {"x begin x while x while x repeat x then x", "DUP 0, DUP 0, 0BRANCH 8, DUP 0, 0BRANCH 7, DUP 0, BRANCH 1, DUP 0, DUP 0, EXIT 0"},
		{"begin while while while repeat x then x else x then", "0BRANCH 7, 0BRANCH 5, 0BRANCH 4, BRANCH 0, DUP 0, DUP 0, BRANCH 8, DUP 0, EXIT 0"}, {"begin x while until then", "DUP 0, 0BRANCH 3, 0BRANCH 0, EXIT 0"}, {"begin while again then", "0BRANCH 2, BRANCH 0, EXIT 0"},
		{"if begin repeat", "0BRANCH 2, BRANCH 1, EXIT 0"}, {"begin while begin while repeat repeat", "0BRANCH 4, 0BRANCH 3, BRANCH 1, BRANCH 0, EXIT 0"},
		{"do do x loop x loop", "DO 0, DO 0, DUP 0, LOOP 2, DUP 0, LOOP 1, EXIT 0"}, {"?do ?do loop loop", "?DO 4, ?DO 3, LOOP 2, LOOP 1, EXIT 0"},
		{"?do leave ?do leave loop leave +loop", "?DO 10, UNLOOP 0, BRANCH 10, ?DO 7, UNLOOP 0, BRANCH 7, LOOP 4, UNLOOP 0, BRANCH 10, +LOOP 1, EXIT 0"},
		{"?do ?do leave +loop ?do leave leave loop leave loop", "?DO 14, ?DO 5, UNLOOP 0, BRANCH 5, +LOOP 2, ?DO 11, UNLOOP 0, BRANCH 11, UNLOOP 0, BRANCH 11, LOOP 6, UNLOOP 0, BRANCH 14, LOOP 1, EXIT 0"},
		{"?do loop ?do loop", "?DO 2, LOOP 1, ?DO 4, LOOP 3, EXIT 0"}, {"do leave loop do leave loop", "DO 0, UNLOOP 0, BRANCH 4, LOOP 1, DO 0, UNLOOP 0, BRANCH 8, LOOP 5, EXIT 0"},
		{"do if leave then loop", "DO 0, 0BRANCH 4, UNLOOP 0, BRANCH 5, LOOP 1, EXIT 0"}, {"do if leave else leave then x loop", "DO 0, 0BRANCH 5, UNLOOP 0, BRANCH 9, BRANCH 7, UNLOOP 0, BRANCH 9, DUP 0, LOOP 1, EXIT 0"},
		{"do begin x while leave repeat loop", "DO 0, DUP 0, 0BRANCH 6, UNLOOP 0, BRANCH 7, BRANCH 1, LOOP 1, EXIT 0"}, {"begin ?do if leave then loop until", "?DO 5, 0BRANCH 4, UNLOOP 0, BRANCH 5, LOOP 1, 0BRANCH 0, EXIT 0"}, {"if ?do x loop else do x +loop then", "0BRANCH 5, ?DO 4, DUP 0, LOOP 2, BRANCH 8, DO 0, DUP 0, +LOOP 6, EXIT 0"},
	} {
		for _, s := range []string{x.s, strings.ToUpper(x.s), strings.ReplaceAll(x.s, "e", "E")} {
			b := built(t, s)
			l, e := End(b)
			if e != api.OK || shown(l) != x.want || !Whole(l) || len(b.Outs) != 0 {
				t.Errorf("%s: %s, throws %d, not %s", s, shown(l), e, x.want)
			}
		}
	}
}

// P8.3

func TestEnd(t *testing.T) {
	exit := api.Ins{Op: op.Exit}
	for _, n := range []int{0, 1, 3, 4094, 4095} {
		if got := told(End(Build{Code: code(n)})); got != told(append(code(n), exit), api.OK) {
			t.Errorf("End of %d instructions = %s", n, got)
		}
	}
	if got := told(End(Build{Code: []api.Ins{exit}})); got != told([]api.Ins{exit, exit}, api.OK) {
		t.Errorf("End of EXIT = %s", got)
	}
	none := []api.Ins{}
	for _, x := range []struct {
		b Build
		e api.Throw
	}{
		{Build{Code: code(4096)}, api.Full}, {Build{Code: code(3), Marks: marks(Orig, 0)}, api.Control}, {Build{Code: code(3), Marks: marks(Dest, 3)}, api.Control}, {Build{code(3), marks(Loop, 1), marks(1, 2)}, api.Control}, {Build{Marks: marks(Dest, 0)}, api.Control},
		{Build{Code: code(3), Marks: marks(Orig, 0, Dest, 1, Loop, 2)}, api.Control}, {Build{Code: code(4095), Marks: marks(Orig, 0)}, api.Control},
		// Both might be told.
		{Build{Code: code(4096), Marks: marks(Orig, 0)}, api.Control}, {Build{Code: code(4096), Marks: marks(Dest, 4096)}, api.Control},
	} {
		if got := told(End(x.b)); got != told(none, x.e) {
			t.Errorf("End of %d instructions, marks %v, = %s", len(x.b.Code), x.b.Marks, got)
		}
	}
	// It may not be: nothing is taken for it.
	if got := told(End(Build{Code: code(4097)})); got != told([]api.Ins{exit}, api.OK) {
		t.Errorf("End of 4097 instructions = %s", got)
	}
}

func TestEndWithAMarkLeft(t *testing.T) {
	for _, s := range []string{"if", "if else", "begin", "begin while", "begin while while repeat", "do", "?do", "do leave", "do do loop", "if if then", "x if x begin x until"} {
		if got := told(End(built(t, s))); got != told([]api.Ins{}, api.Control) {
			t.Errorf("End of %s = %s", s, got)
		}
	}
}

func TestWhole(t *testing.T) {
	exit := api.Ins{Op: op.Exit}
	for k, x := range []struct {
		l    []api.Ins
		want bool
	}{
		{nil, false}, {[]api.Ins{}, false}, {[]api.Ins{exit}, true}, {[]api.Ins{{Op: op.Exit, Arg: 9}}, true}, {[]api.Ins{{Op: op.Exit, Arg: least}}, true}, {[]api.Ins{{Op: op.Dup}}, false}, {[]api.Ins{exit, {Op: op.Dup}}, false},
		{[]api.Ins{{Op: op.Dup}, exit}, true}, {[]api.Ins{exit, exit}, true}, {[]api.Ins{{Op: op.Branch}}, false}, {[]api.Ins{exit, {Op: op.Branch}}, false}, {[]api.Ins{{Op: -1}}, false}, {[]api.Ins{{Op: greatest, Arg: least}, exit}, true},
		{append(code(4095), exit), true}, {append(code(9000), exit), true}, {append(code(4095), api.Ins{Op: op.Branch, Arg: 4096}, exit), true}, {append(code(4095), api.Ins{Op: op.Branch, Arg: 4097}, exit), false},
		{append([]api.Ins{{Op: op.Zero, Arg: 4096}}, append(code(4095), exit)...), true}, {append([]api.Ins{{Op: op.Zero, Arg: 4097}}, append(code(4095), exit)...), false},
		// One that leads elsewhere, among others.
		{[]api.Ins{{Op: op.Branch, Arg: 3}, {Op: op.Zero, Arg: 0}, {Op: op.Loop, Arg: 2}, exit}, true}, {[]api.Ins{{Op: op.Branch, Arg: 4}, {Op: op.Zero, Arg: 0}, {Op: op.Loop, Arg: 2}, exit}, false}, {[]api.Ins{{Op: op.Branch, Arg: 3}, {Op: op.Zero, Arg: -1}, {Op: op.Loop, Arg: 2}, exit}, false}, {[]api.Ins{{Op: op.Branch, Arg: 3}, {Op: op.Zero, Arg: 0}, {Op: op.Loop, Arg: 4}, exit}, false},
	} {
		if got := Whole(x.l); got != x.want {
			t.Errorf("%d: %v", k, got)
		}
	}
}

func TestWholeOfEachOperation(t *testing.T) {
	lead := []int{op.Branch, op.Zero, op.MayDo, op.Loop, op.PlusLoop}
	for o := -1; o <= op.Count; o++ {
		for _, arg := range []int{least, least + 1, -2, -1, 0, 1, 2, 3, 4, 1 << 32, greatest} {
			want := !slices.Contains(lead, o) || arg >= 0 && arg < 3
			for at := range 2 {
				l := []api.Ins{{Op: op.Dup}, {Op: op.Dup}, {Op: op.Exit}}
				l[at] = api.Ins{Op: o, Arg: arg}
				if got := Whole(l); got != want {
					t.Errorf("Whole(%v) = %v", l, got)
				}
			}
		}
	}
}

// P8.4

// thread is a plain model of what is built: each instruction that leads names a label, and where labels are is found at the end.
type thread struct {
	ops    []int
	labels []int // of each instruction the label that it leads to, 0 of none
	places map[int]int
	last   int
	open   []part
}

// part is what is not closed yet: its Kind, its label, and, of a loop, the one behind its end.
type part struct{ kind, label, end int }

func (m *thread) label() int { m.last++; return m.last }

func (m *thread) put(l int) { m.places[l] = len(m.ops) }

func (m *thread) lay(o, label int) { m.ops, m.labels = append(m.ops, o), append(m.labels, label) }

// close takes the innermost part, if it is of that Kind.
func (m *thread) close(kind int) (part, bool) {
	n := len(m.open)
	if n == 0 || m.open[n-1].kind != kind {
		return part{}, false
	}
	p := m.open[n-1]
	m.open = m.open[:n-1]
	return p, true
}

func (m *thread) loop() (part, bool) {
	for k := len(m.open) - 1; k >= 0; k-- {
		if m.open[k].kind == Loop {
			return m.open[k], true
		}
	}
	return part{}, false
}

// fork does IF, ELSE and THEN; false, if one has no pair.
func (m *thread) fork(w string) bool {
	end := m.label()
	switch w {
	case "IF":
		m.lay(op.Zero, end)
	case "ELSE":
		m.lay(op.Branch, end)
	}
	if w != "IF" {
		p, ok := m.close(Orig)
		if !ok {
			return false
		}
		m.put(p.label)
	}
	if w != "THEN" {
		m.open = append(m.open, part{kind: Orig, label: end})
	}
	return true
}

// back does those that go back to BEGIN.
func (m *thread) back(w string) bool {
	p, ok := m.close(Dest)
	if !ok {
		return false
	}
	switch w {
	case "AGAIN":
		m.lay(op.Branch, p.label)
	case "UNTIL":
		m.lay(op.Zero, p.label)
	case "WHILE":
		end := m.label()
		m.lay(op.Zero, end)
		m.open = append(m.open, part{kind: Orig, label: end}, p)
	case "REPEAT":
		m.lay(op.Branch, p.label)
		p, ok = m.close(Orig)
		m.put(p.label)
	}
	return ok
}

// enter does DO and ?DO.
func (m *thread) enter(w string) bool {
	p := part{Loop, m.label(), m.label()}
	if w == "DO" {
		m.lay(op.Do, 0)
	} else {
		m.lay(op.MayDo, p.end)
	}
	m.put(p.label)
	m.open = append(m.open, p)
	return true
}

// end does LOOP and +LOOP.
func (m *thread) end(w string) bool {
	p, ok := m.close(Loop)
	o := op.Loop
	if w == "+LOOP" {
		o = op.PlusLoop
	}
	m.lay(o, p.label)
	m.put(p.end)
	return ok
}

func (m *thread) leave() bool {
	p, ok := m.loop()
	m.lay(op.Unloop, 0)
	m.lay(op.Branch, p.end)
	return ok
}

func (m *thread) word(w string) bool {
	switch w {
	case "IF", "ELSE", "THEN":
		return m.fork(w)
	case "BEGIN":
		p := part{kind: Dest, label: m.label()}
		m.put(p.label)
		m.open = append(m.open, p)
		return true
	case "AGAIN", "UNTIL", "WHILE", "REPEAT":
		return m.back(w)
	case "DO", "?DO":
		return m.enter(w)
	case "LOOP", "+LOOP":
		return m.end(w)
	case "LEAVE":
		return m.leave()
	}
	m.lay(op.Dup, 0)
	return true
}

// modelled is what the model makes of words: the thread, or what is thrown by the last word, or by the end.
func modelled(l []string) (thread string, word, end api.Throw) {
	m := newThread()
	for _, w := range l {
		if !m.word(w) {
			return "", api.Control, api.OK
		}
	}
	if len(m.open) > 0 {
		return "", api.OK, api.Control
	}
	m.lay(op.Exit, 0)
	var out []api.Ins
	for k, o := range m.ops {
		i := api.Ins{Op: o}
		if m.labels[k] > 0 {
			i.Arg = m.places[m.labels[k]]
		}
		out = append(out, i)
	}
	return shown(out), api.OK, api.OK
}

func newThread() *thread { return &thread{places: map[int]int{}} }

// asModelled does one word more behind others, and holds it against the model; what there is then, and whether one may go on.
func asModelled(t *testing.T, b Build, l []string) (Build, bool) {
	t.Helper()
	w := l[len(l)-1]
	next, ok, e := Word(b, w)
	if !ok {
		next, e = Emit(b, api.Ins{Op: op.Dup})
	}
	want, wantWord, wantEnd := modelled(l)
	if e != wantWord {
		t.Fatalf("%v: throws %d, not %d", l, e, wantWord)
	}
	if e != api.OK {
		return b, false
	}
	if !Sane(next) {
		t.Fatalf("%v: %v is not sane", l, next)
	}
	got, e := End(next)
	if e != wantEnd || shown(got) != want {
		t.Fatalf("%v: %s, throws %d, not %s, %d", l, shown(got), e, want, wantEnd)
	}
	if e == api.OK && (!Whole(got) || len(next.Outs) > 0) {
		t.Fatalf("%v: %s is not whole, or leaves %v", l, shown(got), next.Outs)
	}
	return next, true
}

// goOn tries every word behind others, and every word behind these, so many times.
func goOn(t *testing.T, b Build, l []string, times int) {
	if times == 0 {
		return
	}
	for _, w := range append(slices.Clone(words), "x") {
		more := append(slices.Clone(l), w)
		if next, ok := asModelled(t, b, more); ok {
			goOn(t, next, more, times-1)
		}
	}
}

// dice are numbers in no plain order, the same ones each time.
type dice struct{ now uint64 }

func (d *dice) below(n int) int {
	d.now = d.now*6364136223846793005 + 1442695040888963407
	return int(d.now>>33) % n
}

func TestAllRowsOfSixWords(t *testing.T) { goOn(t, Build{}, nil, 6) }

func TestGreatRows(t *testing.T) {
	r := &dice{8}
	all := append(slices.Clone(words), "x")
	ended := 0
	for range 300 {
		var b Build
		var l []string
		for range 60 {
			more := append(slices.Clone(l), all[r.below(len(all))])
			if next, ok := asModelled(t, b, more); ok {
				b, l = next, more
				if len(b.Marks) == 0 {
					ended++
				}
			}
		}
	}
	if ended < 100 {
		t.Errorf("only %d rows came to an end", ended)
	}
}

// P1 and R3

// someNumber is one near a place, or a great one.
func someNumber(r *dice, near int) int {
	some := []int{least, greatest, -1, 0, near, near - 1, near + 1}
	if r.below(8) == 0 {
		return some[r.below(len(some))]
	}
	return r.below(near + 1)
}

// someBuild is any: about half of them are sane.
func someBuild(r *dice) Build {
	here := []int{0, 1, 2, 5, 4095, 4096, 4097}[r.below(7)]
	b := Build{Code: code(here)}
	for range r.below(4) {
		b.Marks = append(b.Marks, Mark{1 + r.below(3), someNumber(r, here)})
	}
	for range r.below(3) {
		b.Outs = append(b.Outs, Mark{someNumber(r, 3), someNumber(r, here)})
	}
	b.Marks, b.Outs = slices.Grow(b.Marks, spare), slices.Grow(b.Outs, spare)
	return b
}

func TestNoCallPanicsOrChangesWhatIsHandedIn(t *testing.T) {
	r := &dice{8}
	sane := 0
	for range 3000 {
		b := someBuild(r)
		was := copied(b)
		if Sane(b) {
			sane++
		}
		for _, w := range append([]string{"", "x"}, words...) {
			if next, _, _ := Word(b, w); !Sane(next) {
				t.Fatalf("%v, %v: behind %s it is not sane", b.Marks, b.Outs, w)
			}
		}
		l := code(r.below(3))
		Emit(b, l...)
		End(b)
		Whole(b.Code)
		if !unchanged(b, was) || !slices.Equal(l[:cap(l)], code(cap(l))) {
			t.Fatalf("calls changed %v, %v", was.Marks, was.Outs)
		}
	}
	if sane < 300 || sane > 2700 {
		t.Errorf("%d of 3000 are sane", sane)
	}
}

func TestEffectsChangeNothing(t *testing.T) {
	for _, x := range effects() {
		was := copied(x.b)
		next, _, _ := Word(x.b, x.w)
		if !unchanged(x.b, was) {
			t.Errorf("%s changed %v", x.w, was)
		}
		// Nor does what comes behind it.
		nextWas := copied(next)
		for _, w := range words {
			Word(next, w)
			Word(x.b, w)
		}
		Emit(next, code(3)...)
		End(next)
		End(Build{Code: next.Code})
		if !unchanged(next, nextWas) || !unchanged(x.b, was) {
			t.Errorf("what came behind %s changed %v", x.w, nextWas)
		}
	}
}

func TestTwoWordsBehindOne(t *testing.T) {
	b := built(t, "do if")
	then, _, _ := Word(b, "then")
	other, _, _ := Word(b, "else")
	left, _, _ := Word(b, "leave")
	laid, _ := Emit(b, api.Ins{Op: op.Drop})
	for _, x := range []struct {
		b    Build
		want string
	}{
		{b, "DO 0, 0BRANCH 0"}, {then, "DO 0, 0BRANCH 2"}, {other, "DO 0, 0BRANCH 3, BRANCH 0"}, {left, "DO 0, 0BRANCH 0, UNLOOP 0, BRANCH 0"}, {laid, "DO 0, 0BRANCH 0, DROP 0"},
	} {
		if got := shown(x.b.Code); got != x.want {
			t.Errorf("%s, not %s", got, x.want)
		}
	}
}

func TestManyMarks(t *testing.T) {
	const n = 1 << 20
	b := Build{code(4000), make([]Mark, n), make([]Mark, n)}
	for k := range n {
		b.Marks[k] = Mark{Loop, k % 4001}
		b.Outs[k] = Mark{n - k%2, k % 4000}
	}
	next, ok, e := Word(b, "loop")
	if !ok || e != api.OK || len(next.Marks) != n-1 || len(next.Outs) != n/2 || !Sane(next) {
		t.Errorf("%v, %d: %d marks, %d of Outs", ok, e, len(next.Marks), len(next.Outs))
	}
	if l, e := End(b); len(l) != 0 || e != api.Control {
		t.Errorf("End throws %d", e)
	}
}

func TestGreatTexts(t *testing.T) {
	const n = 1 << 20
	for _, s := range []string{"if", "do", "\x00", " ", "\xff", "+loop"} {
		leadsNot(t, strings.Repeat(s, n))
	}
	leadsNot(t, strings.Repeat(" ", n)+"if")
	leadsNot(t, "if"+strings.Repeat("\xff", n))
}
