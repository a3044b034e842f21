package op

import (
	"math"
	"slices"
	"strings"
	"testing"
)

// entry is a row of the document's table, with its constant's number.
type entry struct {
	constant, number int
	name             string
	needs, leaves    int
	hangs            bool
	group            int
}

// entries are the document's table, row by row.
var entries = []entry{
	{Lit, 0, "(LIT)", 0, 1, false, 0}, {Branch, 1, "(BRANCH)", 0, 0, false, 0}, {Zero, 2, "(0BRANCH)", 1, 0, false, 0}, {Call, 3, "(CALL)", 0, 0, true, 0},
	{Exit, 4, "EXIT", 0, 0, false, 0}, {Do, 5, "(DO)", 2, 0, false, 0}, {MayDo, 6, "(?DO)", 2, 0, false, 0}, {Loop, 7, "(LOOP)", 0, 0, false, 0},
	{PlusLoop, 8, "(+LOOP)", 1, 0, false, 0}, {Unloop, 9, "UNLOOP", 0, 0, false, 0}, {I, 10, "I", 0, 1, false, 0}, {J, 11, "J", 0, 1, false, 0},
	{ToR, 12, ">R", 1, 0, false, 0}, {FromR, 13, "R>", 0, 1, false, 0}, {AtR, 14, "R@", 0, 1, false, 0}, {Execute, 15, "EXECUTE", 1, 0, true, 0},
	{Catch, 16, "CATCH", 1, 0, true, 0}, {Throw, 17, "THROW", 1, 0, true, 0},
	{Dup, 18, "DUP", 1, 2, false, 1}, {Drop, 19, "DROP", 1, 0, false, 1}, {Swap, 20, "SWAP", 2, 2, false, 1}, {Over, 21, "OVER", 2, 3, false, 1},
	{Rot, 22, "ROT", 3, 3, false, 1}, {Nip, 23, "NIP", 2, 1, false, 1}, {Tuck, 24, "TUCK", 2, 3, false, 1}, {Dup2, 25, "2DUP", 2, 4, false, 1},
	{Drop2, 26, "2DROP", 2, 0, false, 1}, {Swap2, 27, "2SWAP", 4, 4, false, 1}, {Over2, 28, "2OVER", 4, 6, false, 1}, {MayDup, 29, "?DUP", 1, 0, true, 1},
	{Pick, 30, "PICK", 1, 1, false, 1}, {Roll, 31, "ROLL", 1, 0, false, 1}, {Depth, 32, "DEPTH", 0, 1, false, 1}, {Plus, 33, "+", 2, 1, false, 1},
	{Minus, 34, "-", 2, 1, false, 1}, {Times, 35, "*", 2, 1, false, 1}, {Slash, 36, "/", 2, 1, false, 1}, {Mod, 37, "MOD", 2, 1, false, 1},
	{SlashMod, 38, "/MOD", 2, 2, false, 1}, {Scale, 39, "*/", 3, 1, false, 1}, {ScaleMod, 40, "*/MOD", 3, 2, false, 1}, {Inc, 41, "1+", 1, 1, false, 1},
	{Dec, 42, "1-", 1, 1, false, 1}, {Twice, 43, "2*", 1, 1, false, 1}, {Half, 44, "2/", 1, 1, false, 1}, {Negate, 45, "NEGATE", 1, 1, false, 1},
	{Abs, 46, "ABS", 1, 1, false, 1}, {Min, 47, "MIN", 2, 1, false, 1}, {Max, 48, "MAX", 2, 1, false, 1}, {And, 49, "AND", 2, 1, false, 1},
	{Or, 50, "OR", 2, 1, false, 1}, {Xor, 51, "XOR", 2, 1, false, 1}, {Invert, 52, "INVERT", 1, 1, false, 1}, {Lshift, 53, "LSHIFT", 2, 1, false, 1},
	{Rshift, 54, "RSHIFT", 2, 1, false, 1}, {Same, 55, "=", 2, 1, false, 1}, {Other, 56, "<>", 2, 1, false, 1}, {Less, 57, "<", 2, 1, false, 1},
	{More, 58, ">", 2, 1, false, 1}, {ULess, 59, "U<", 2, 1, false, 1}, {IsZero, 60, "0=", 1, 1, false, 1}, {IsNeg, 61, "0<", 1, 1, false, 1},
	{Within, 62, "WITHIN", 3, 1, false, 1}, {UMul, 63, "UM*", 2, 2, false, 1}, {Mul, 64, "M*", 2, 2, false, 1}, {UMod, 65, "UM/MOD", 3, 2, false, 1},
	{FMod, 66, "FM/MOD", 3, 2, false, 1}, {SRem, 67, "SM/REM", 3, 2, false, 1}, {ToD, 68, "S>D", 1, 2, false, 1}, {DPlus, 69, "D+", 4, 2, false, 1},
	{DNeg, 70, "DNEGATE", 2, 2, false, 1}, {Cells, 71, "CELLS", 1, 1, false, 1}, {CellPlus, 72, "CELL+", 1, 1, false, 1}, {CharPlus, 73, "CHAR+", 1, 1, false, 1},
	{Aligned, 74, "ALIGNED", 1, 1, false, 1},
	{Fetch, 75, "@", 1, 1, false, 2}, {Store, 76, "!", 2, 0, false, 2}, {CFetch, 77, "C@", 1, 1, false, 2}, {CStore, 78, "C!", 2, 0, false, 2},
	{PlusStore, 79, "+!", 2, 0, false, 2}, {Fill, 80, "FILL", 3, 0, false, 2}, {Move, 81, "MOVE", 3, 0, false, 2}, {Cas, 82, "CAS", 3, 1, false, 2},
	{Emit, 83, "EMIT", 1, 0, false, 3}, {Type, 84, "TYPE", 2, 0, false, 3}, {Dot, 85, ".", 1, 0, false, 3}, {UDot, 86, "U.", 1, 0, false, 3},
	{Cr, 87, "CR", 0, 0, false, 3}, {Space, 88, "SPACE", 0, 0, false, 3},
	{PicBegin, 89, "<#", 0, 0, false, 4}, {PicDigit, 90, "#", 2, 2, false, 4}, {PicAll, 91, "#S", 2, 2, false, 4}, {Hold, 92, "HOLD", 1, 0, false, 4},
	{Sign, 93, "SIGN", 1, 0, false, 4}, {PicEnd, 94, "#>", 2, 2, false, 4},
	{Base, 95, "BASE", 0, 1, false, 5}, {Decimal, 96, "DECIMAL", 0, 0, false, 5}, {Hex, 97, "HEX", 0, 0, false, 5},
	{Me, 98, "ME", 0, 1, false, 6}, {Ticks, 99, "TICKS", 0, 1, false, 6}, {Pause, 100, "PAUSE", 0, 0, false, 6}, {Sleep, 101, "SLEEP", 1, 0, false, 6},
	{Bye, 102, "BYE", 0, 0, false, 6}, {Note, 103, "NOTE", 3, 0, false, 6},
	{Create, 104, "CREATE", 0, 0, false, 7}, {Does, 105, "(DOES)", 0, 0, false, 7}, {Here, 106, "HERE", 0, 1, false, 7}, {Allot, 107, "ALLOT", 1, 0, false, 7},
	{Comma, 108, ",", 1, 0, false, 7}, {Compile, 109, "COMPILE,", 1, 0, false, 7}, {Immediate, 110, "IMMEDIATE", 0, 0, false, 7},
}

// inParentheses are the operations that nobody finds by a name.
var inParentheses = []int{0, 1, 2, 3, 5, 6, 7, 8, 105}

// others are numbers of no operation, among them such as are one's in their low digits of two.
func others() []int {
	out := []int{math.MinInt, math.MinInt + 1, math.MinInt + 18, -1 << 32, -1<<32 + 18, -256 + 18, -128, -111, -110, -18, -2, -1, 111, 112, 127, 128, 255, 256, 256 + 18, 1 << 16, 1<<16 + 18, 1 << 31, 1 << 32, 1<<32 + 18, 1<<63 - 2, math.MaxInt}
	for k := range 300 {
		out = append(out, -1-k, 111+k)
	}
	return out
}

// model finds a text by the document's table, byte by byte.
func model(s string) (int, bool) {
	for _, e := range entries {
		if !slices.Contains(inParentheses, e.number) && alike(s, e.name) {
			return e.number, true
		}
	}
	return 0, false
}

// alike: is it that name, but for small letters?
func alike(s, name string) bool {
	if len(s) != len(name) {
		return false
	}
	for k := range len(s) {
		small := name[k] >= 'A' && name[k] <= 'Z' && s[k] == name[k]+32
		if s[k] != name[k] && !small {
			return false
		}
	}
	return true
}

func findsAsModel(t *testing.T, s string) {
	t.Helper()
	want, wantOK := model(s)
	if got, ok := Find(s); got != want || ok != wantOK {
		t.Errorf("Find(%q) = %d, %v, not %d, %v", s, got, ok, want, wantOK)
	}
}

func findsNothing(t *testing.T, s string) {
	t.Helper()
	if got, ok := Find(s); got != 0 || ok {
		t.Errorf("Find(%q) = %d, %v", s, got, ok)
	}
}

// mixes are a name with each of its letters small and in capitals, in all ways.
func mixes(name string) []string {
	out := []string{""}
	for k := range len(name) {
		c := name[k : k+1]
		var next []string
		for _, s := range out {
			next = append(next, s+c)
			if c >= "A" && c <= "Z" {
				next = append(next, s+strings.ToLower(c))
			}
		}
		out = next
	}
	return out
}

// P7.1

func TestEveryRow(t *testing.T) {
	if len(entries) != 111 || Count != 111 {
		t.Fatalf("%d rows, and Count is %d", len(entries), Count)
	}
	for k, e := range entries {
		if e.constant != k || e.number != k {
			t.Errorf("row %d: the constant of %s is %d", k, e.name, e.constant)
		}
		if got := Name(k); got != e.name {
			t.Errorf("Name(%d) = %q, not %q", k, got, e.name)
		}
		if got := Needs(k); got != e.needs {
			t.Errorf("Needs(%d), of %s, = %d, not %d", k, e.name, got, e.needs)
		}
		if got, ok := Leaves(k); got != e.leaves || ok == e.hangs {
			t.Errorf("Leaves(%d), of %s, = %d, %v, not %d, %v", k, e.name, got, ok, e.leaves, !e.hangs)
		}
		if got := Group(k); got != e.group {
			t.Errorf("Group(%d), of %s, = %d, not %d", k, e.name, got, e.group)
		}
	}
}

func TestWhereItHangs(t *testing.T) {
	var got []int
	for k := range 111 {
		n, ok := Leaves(k)
		if ok {
			continue
		}
		if n != 0 {
			t.Errorf("Leaves(%d) = %d, false", k, n)
		}
		got = append(got, k)
	}
	if want := []int{3, 15, 16, 17, 29}; !slices.Equal(got, want) {
		t.Errorf("it hangs of %v, not of %v", got, want)
	}
}

func TestGroupsStandInOrder(t *testing.T) {
	first := []int{0, 18, 75, 83, 89, 95, 98, 104}
	for g, from := range first {
		to := 111
		if g+1 < len(first) {
			to = first[g+1]
		}
		for k := from; k < to; k++ {
			if got := Group(k); got != g {
				t.Errorf("Group(%d) = %d, not %d", k, got, g)
			}
		}
	}
}

func TestOtherNumbers(t *testing.T) {
	for _, k := range others() {
		n, ok := Leaves(k)
		if Name(k) != "" || Needs(k) != 0 || n != 0 || ok || Group(k) != -1 || Hidden(k) {
			t.Errorf("%d: %q, needs %d, leaves %d, %v, group %d, hidden %v", k, Name(k), Needs(k), n, ok, Group(k), Hidden(k))
		}
	}
}

func TestExample(t *testing.T) {
	k, ok := Find("dup")
	n, told := Leaves(k)
	if k != 18 || !ok || Group(k) != 1 || Needs(k) != 1 || n != 2 || !told {
		t.Errorf("dup: %d, %v, of the group %d, needs %d, leaves %d, %v", k, ok, Group(k), Needs(k), n, told)
	}
}

// P7.2

func TestHidden(t *testing.T) {
	for k := range 111 {
		want := slices.Contains(inParentheses, k)
		if got := Hidden(k); got != want {
			t.Errorf("Hidden(%d), of %s, = %v", k, Name(k), got)
		}
	}
}

func TestFind(t *testing.T) {
	for _, x := range []struct {
		s    string
		want int
	}{
		{"dup", 18}, {"DUP", 18}, {"Dup", 18}, {"dUp", 18}, {"exit", 4}, {"IMMEDIATE", 110}, {"immediate", 110}, {"ImMeDiAtE", 110},
		// Of one byte.
		{"i", 10}, {"I", 10}, {"j", 11}, {"+", 33}, {"-", 34}, {"*", 35}, {"/", 36}, {"=", 55}, {"<", 57}, {">", 58}, {"@", 75}, {"!", 76}, {".", 85}, {"#", 90}, {",", 108},
		// That begin, or end, alike.
		{"2dup", 25}, {"2drop", 26}, {"?dup", 29}, {"drop", 19}, {"+!", 79}, {"c!", 78}, {"c@", 77}, {"*/", 39}, {"*/mod", 40}, {"/mod", 38}, {"mod", 37}, {"um/mod", 65}, {"fm/mod", 66}, {"um*", 63}, {"m*", 64}, {"<>", 56}, {"<#", 89}, {"#>", 94}, {"#s", 91}, {">r", 12}, {"r>", 13}, {"r@", 14}, {"u<", 59}, {"u.", 86}, {"0=", 60}, {"0<", 61}, {"1+", 41}, {"1-", 42}, {"2*", 43}, {"2/", 44}, {"s>d", 68}, {"d+", 69}, {"dnegate", 70}, {"negate", 45}, {"cells", 71}, {"cell+", 72}, {"char+", 73}, {"compile,", 109}, {"over", 21}, {"2over", 28},
	} {
		if got, ok := Find(x.s); got != x.want || !ok {
			t.Errorf("Find(%q) = %d, %v, not %d", x.s, got, ok, x.want)
		}
	}
}

func TestEveryNameInSmallLettersAndCapitals(t *testing.T) {
	for _, e := range entries {
		hidden := slices.Contains(inParentheses, e.number)
		for _, s := range mixes(e.name) {
			if hidden {
				findsNothing(t, s)
			} else if got, ok := Find(s); got != e.number || !ok {
				t.Errorf("Find(%q) = %d, %v, not %d", s, got, ok, e.number)
			}
		}
	}
}

func TestNoNames(t *testing.T) {
	for _, s := range []string{
		"", " ", "\n", "\x00", "(", ")", "()", "( )", "((LIT))", "(lit", "lit)", "lit", "branch", "0branch", "call", "do", "?do", "loop", "+loop", "does", "does>",
		" dup", "dup ", "\tdup", "dup\n", "du p", "dup dup", "du", "up", "dupe", "ddup", "3dup", "2du", "2d", "2", "compile", "xcompile,", "um/", "/m", "immediat", "mmediate",
		":", ";", "if", "0", "18", "+-", "?", "'", "\"",
		// Other letters whose capital, or small letter, is one of A to Z.
		"ı", "ſwap", "ſ>d", "tic\u212as", "\u212a", "dup\u0301", "ＤＵＰ", "é", "dup\u00a0",
		"\xff", "\x80", "dup\xff", "\x80dup", "d\xc3p", "\xe4\xf5\xf0", "\xc4\xd5\xd0", "\xc3", "\xf0\x9f\x98",
	} {
		findsNothing(t, s)
	}
}

func TestTextsOfOneByteAndOfTwo(t *testing.T) {
	for a := range 256 {
		findsAsModel(t, string([]byte{byte(a)}))
		for b := range 256 {
			findsAsModel(t, string([]byte{byte(a), byte(b)}))
		}
	}
}

func TestPartsOfNames(t *testing.T) {
	for _, e := range entries {
		for _, s := range []string{e.name, strings.ToLower(e.name)} {
			for from := range len(s) {
				for to := from; to <= len(s); to++ {
					findsAsModel(t, s[from:to])
				}
			}
		}
	}
}

func TestNamesWithOneByteMoreLessOrOther(t *testing.T) {
	for _, e := range entries {
		for k := range len(e.name) + 1 {
			ahead, behind := e.name[:k], e.name[k:]
			for c := range 256 {
				one := string([]byte{byte(c)})
				findsAsModel(t, ahead+one+behind)
				if behind != "" {
					findsAsModel(t, ahead+behind[1:])
					findsAsModel(t, ahead+one+behind[1:])
				}
			}
		}
	}
}

func TestTwoNamesOneBehindTheOther(t *testing.T) {
	for _, a := range entries {
		for _, b := range entries {
			findsAsModel(t, a.name+b.name)
			findsNothing(t, a.name+" "+b.name)
		}
	}
}

// P7.3

func TestNoTwoHaveOneName(t *testing.T) {
	seen := map[string]int{}
	for k := range 111 {
		if other, ok := seen[Name(k)]; ok || Name(k) == "" {
			t.Errorf("%d has the name %q, as %d has", k, Name(k), other)
		}
		seen[Name(k)] = k
	}
}

func TestWhatIsFoundHasThatName(t *testing.T) {
	for k := range 111 {
		got, ok := Find(Name(k))
		if ok == Hidden(k) {
			t.Errorf("Find(%q) = %d, %v", Name(k), got, ok)
		}
		if ok && (got != k || Name(got) != Name(k)) {
			t.Errorf("Find(%q) = %d, whose name is %q", Name(k), got, Name(got))
		}
	}
}

// P1

func TestGreatTexts(t *testing.T) {
	const n = 1 << 20
	for _, s := range []string{"dup", "+", "\x00", " ", "\xff", "(", "(lit)"} {
		findsNothing(t, strings.Repeat(s, n))
	}
	findsNothing(t, strings.Repeat(" ", n)+"dup")
	findsNothing(t, "dup"+strings.Repeat("\xff", n))
}
