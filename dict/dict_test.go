package dict

import (
	"fmt"
	"math"
	"slices"
	"strings"
	"testing"

	"tenterhook/api"
	"tenterhook/op"
)

const (
	least = math.MinInt
	most  = math.MaxInt
)

// none is a place without a number.
var none = api.Place{Th: -1}

// somewhere is a place, and number is its number.
var somewhere = api.Place{Th: 3, At: 2}

const number = 12290

// blocks are the operations that are not hidden: the first one's number, and their names in order.
var blocks = []struct {
	first int
	names string
}{
	{4, "EXIT"},
	{9, "UNLOOP I J >R R> R@ EXECUTE CATCH THROW"},
	{18, "DUP DROP SWAP OVER ROT NIP TUCK 2DUP 2DROP 2SWAP 2OVER ?DUP PICK ROLL DEPTH"},
	{33, "+ - * / MOD /MOD */ */MOD 1+ 1- 2* 2/ NEGATE ABS MIN MAX AND OR XOR INVERT LSHIFT RSHIFT"},
	{55, "= <> < > U< 0= 0< WITHIN UM* M* UM/MOD FM/MOD SM/REM S>D D+ DNEGATE CELLS CELL+ CHAR+ ALIGNED"},
	{75, "@ ! C@ C! +! FILL MOVE CAS EMIT TYPE . U. CR SPACE <# # #S HOLD SIGN #> BASE DECIMAL HEX"},
	{98, "ME TICKS PAUSE SLEEP BYE NOTE CREATE"},
	{106, "HERE ALLOT , COMPILE, IMMEDIATE"},
}

// hidden are the operations that no one finds, with their names.
func hidden() map[int]string {
	return map[int]string{0: "(LIT)", 1: "(BRANCH)", 2: "(0BRANCH)", 3: "(CALL)", 5: "(DO)", 6: "(?DO)", 7: "(LOOP)", 8: "(+LOOP)", 105: "(DOES)"}
}

// prims are the entries of all operations that are not hidden, in order.
func prims() []Entry {
	var out []Entry
	for _, b := range blocks {
		for k, name := range strings.Fields(b.names) {
			out = append(out, Entry{name, false, Prim, b.first + k, api.Place{}})
		}
	}
	return out
}

// con, colon and others make entries that may be, but for their names.
func con(name string, val int) Entry { return Entry{Name: name, Kind: Con, Val: val} }

func colon(name string, p api.Place) Entry { return Entry{Name: name, Kind: Colon, P: p} }

// cons are n entries of different names.
func cons(n int) []Entry {
	out := make([]Entry, n)
	for k := range out {
		out[k] = con(fmt.Sprint("N", k), k)
	}
	return out
}

// spare are entries behind the end of a list that is handed in: no call may see or touch them.
const spare = 3

// roomy is a copy of l, with room behind its end, in which other entries lie.
func roomy(l []Entry) []Entry {
	out := slices.Clone(l)
	for k := range spare {
		out = append(out, con(fmt.Sprint("SPARE", k), -k))
	}
	return out[:len(l):len(out)]
}

// whole is a list with what lies in its room.
func whole(l []Entry) []Entry { return slices.Clone(l[:cap(l)]) }

// kept tells if a call changed a list, or what lies in its room.
func kept(t *testing.T, what string, l, was []Entry) {
	t.Helper()
	if !slices.Equal(whole(l), was) {
		t.Errorf("%s changed the list that was handed in", what)
	}
}

func adds(t *testing.T, l []Entry, e Entry) []Entry {
	t.Helper()
	out, th := Add(l, e)
	if th != api.OK {
		t.Fatalf("Add(%d entries, %v): throw %d", len(l), e, int(th))
	}
	return out
}

func finds(t *testing.T, l []Entry, name string, want int) {
	t.Helper()
	if got, ok := Find(l, name); got != want || !ok {
		t.Errorf("Find(%d entries, %q) = %d, %v, not %d", len(l), name, got, ok, want)
	}
}

func findsNothing(t *testing.T, l []Entry, name string) {
	t.Helper()
	if got, ok := Find(l, name); got != 0 || ok {
		t.Errorf("Find(%d entries, %q) = %d, %v", len(l), name, got, ok)
	}
}

// upper is a text with A to Z for a to z.
func upper(s string) string {
	var out []byte
	for k := range len(s) {
		if s[k] >= 97 && s[k] <= 122 {
			out = append(out, s[k]-32)
		} else {
			out = append(out, s[k])
		}
	}
	return string(out)
}

// lower is a text with a to z for A to Z.
func lower(s string) string {
	out := []byte(s)
	for k, c := range out {
		if c >= 65 && c <= 90 {
			out[k] = c + 32
		}
	}
	return string(out)
}

// sane is Sane, by the document.
func sane(e Entry) bool {
	if e.Name == "" || len(e.Name) > 31 {
		return false
	}
	for k := range len(e.Name) {
		if c := e.Name[k]; c <= 32 || c >= 97 && c <= 122 {
			return false
		}
	}
	_, hides := hidden()[e.Val]
	placed := e.P.Th >= 0 && e.P.Th <= 1000000 && e.P.At >= 0 && e.P.At <= 4095
	switch e.Kind {
	case 0:
		return e.Val >= 0 && e.Val <= 110 && !hides && e.P.Th == 0 && e.P.At == 0
	case 1, 4:
		return placed
	}
	return e.Kind == 2 || e.Kind == 3
}

// thrown is what Add tells, by the document.
func thrown(n int, e Entry) api.Throw {
	if len(e.Name) < 1 || len(e.Name) > 31 {
		return -16
	}
	e.Name = upper(e.Name)
	if !sane(e) {
		return -21
	}
	if n >= 512 {
		return -8
	}
	return 0
}

// laid is what Code tells of an entry, by the document.
func laid(e Entry) ([]api.Ins, bool) {
	if !sane(e) {
		return nil, false
	}
	n := e.P.Th*4096 + e.P.At
	return [][]api.Ins{{{Op: e.Val}}, {{Op: 3, Arg: n}}, {{Op: 0, Arg: e.Val}}, {{Op: 0, Arg: e.Val}}, {{Op: 0, Arg: e.Val}, {Op: 3, Arg: n}}}[e.Kind], true
}

// names are such as may be, and such as may not.
func names() []string {
	return []string{
		"", "X", "x", "SQ", "sq", "Sq", "A1", "?", "(X)", "(LIT)", "(lit)", "DUP", "dup", "`", "{", "[@]", "!",
		" ", "\x00", "\x1f", "\n", "\t", " X", "X ", "X Y", "X\tY", "X\x00", "\x1fX", "X\x1f\x1f", "x y",
		"\x7f", "\x80", "\xff", "\xa0", "é", "ÉCRIRE", "écrire", "ſ", "\xe4\xf5", "Aÿ\xffZ", "a\xff",
		strings.Repeat("A", 30), strings.Repeat("A", 31), strings.Repeat("A", 32), strings.Repeat("a", 31), strings.Repeat("a", 32),
		strings.Repeat("é", 15), strings.Repeat("é", 16), strings.Repeat("A", 30) + " ", strings.Repeat(" ", 31), strings.Repeat(" ", 32), strings.Repeat("\xff", 31), strings.Repeat("X", 1000),
	}
}

// vals are numbers of operations that are found and that are hidden, and others.
func vals() []int {
	out := []int{least, least + 18, -1 << 32, -256 + 18, -111, -1, 111, 112, 256 + 18, 1<<32 + 18, most}
	for k := range 111 {
		out = append(out, k)
	}
	return out
}

// threads and ats are parts of places with numbers, and without.
func threads() []int {
	return []int{least, least + 1, -1 << 52, -4096, -2, -1, 0, 1, 2, 3, 4095, 4096, 65536, 999999, 1000000, 1000001, 1000002, 1 << 31, 1 << 51, 1 << 52, 1<<52 + 1, most - 1, most}
}

func ats() []int {
	return []int{least, least + 1, -4097, -4096, -4095, -2, -1, 0, 1, 2, 2047, 2048, 4094, 4095, 4096, 4097, 8192, 1 << 31, 1 << 32, most - 1, most}
}

func places() []api.Place {
	var out []api.Place
	for _, th := range threads() {
		for _, at := range ats() {
			out = append(out, api.Place{Th: th, At: at})
		}
	}
	return out
}

// entries are of all kinds, with all that each of them may have and may not.
func entries() []Entry {
	kinds := []int{least, -1, 0, 1, 2, 3, 4, 5, 6, 256, 1 << 32, 1<<32 + 3, most}
	var out []Entry
	for _, kind := range kinds {
		for _, val := range vals() {
			for _, p := range []api.Place{{}, somewhere, none} {
				out = append(out, Entry{"W", val%2 == 0, kind, val, p})
			}
		}
		for _, name := range names() {
			for _, val := range []int{0, 18, 111} {
				for _, p := range []api.Place{{}, somewhere, none} {
					out = append(out, Entry{name, true, kind, val, p})
				}
			}
		}
		for _, p := range places() {
			out = append(out, Entry{"W", false, kind, 18, p})
		}
	}
	return out
}

// P11.1

func TestAddr(t *testing.T) {
	for _, x := range []struct{ th, at, want int }{
		{0, 0, 0}, {0, 1, 1}, {0, 4095, 4095}, {1, 0, 4096}, {1, 1, 4097}, {3, 2, 12290}, {1000, 7, 4096007}, {999999, 4095, 4095999999}, {1000000, 0, 4096000000}, {1000000, 4095, 4096004095},
		{-1, 0, -1}, {1000001, 0, -1}, {0, -1, -1}, {0, 4096, -1}, {5, -1, -1}, {5, 4096, -1}, {1000000, 4096, -1}, {1000000, -1, -1}, {1000001, -1, -1}, {-1, 4096, -1}, {-1, 4095, -1}, {1000001, 4095, -1},
		{least, 0, -1}, {most, 0, -1}, {0, least, -1}, {0, most, -1}, {least, least, -1}, {most, most, -1}, {least, most, -1}, {1, least, -1},
		// Whose number would go round to one that is.
		{1 << 52, 5, -1}, {1<<52 + 1, 0, -1}, {-1 << 52, 5, -1}, {1, -4096, -1}, {1, -1, -1},
	} {
		if got := Addr(api.Place{Th: x.th, At: x.at}); got != x.want {
			t.Errorf("Addr(%d, %d) = %d, not %d", x.th, x.at, got, x.want)
		}
	}
}

func TestAddrOfAllMixes(t *testing.T) {
	for _, p := range places() {
		want := -1
		if p.Th >= 0 && p.Th < 1000001 && p.At >= 0 && p.At < 4096 {
			want = p.Th*4096 + p.At
		}
		if got := Addr(p); got != want {
			t.Errorf("Addr(%d, %d) = %d, not %d", p.Th, p.At, got, want)
		}
	}
}

func TestAt(t *testing.T) {
	for _, x := range []struct {
		n, th, at int
		want      bool
	}{
		{0, 0, 0, true}, {1, 0, 1, true}, {4095, 0, 4095, true}, {4096, 1, 0, true}, {4097, 1, 1, true}, {12290, 3, 2, true}, {1 << 31, 524288, 0, true}, {1<<31 - 1, 524287, 4095, true},
		{4095999999, 999999, 4095, true}, {4096000000, 1000000, 0, true}, {4096004095, 1000000, 4095, true},
		{-1, 0, 0, false}, {-2, 0, 0, false}, {-4095, 0, 0, false}, {-4096, 0, 0, false}, {-4097, 0, 0, false}, {-4096004096, 0, 0, false},
		{4096004096, 0, 0, false}, {4096004097, 0, 0, false}, {4096008192, 0, 0, false}, {1 << 33, 0, 0, false}, {1 << 62, 0, 0, false}, {most, 0, 0, false}, {most - 1, 0, 0, false}, {least, 0, 0, false}, {least + 1, 0, 0, false}, {least + 12290, 0, 0, false},
	} {
		if got, ok := At(x.n); got != (api.Place{Th: x.th, At: x.at}) || ok != x.want {
			t.Errorf("At(%d) = %v, %v, not %d, %d, %v", x.n, got, ok, x.th, x.at, x.want)
		}
	}
}

func TestAddrAndAtAreOfOneAnother(t *testing.T) {
	back := func(n int) {
		p, ok := At(n)
		if got := Addr(p); !ok || got != n {
			t.Errorf("At(%d) = %v, %v, whose number is %d", n, p, ok, got)
		}
	}
	for n := range 20000 {
		back(n)
		back(4096004095 - n)
	}
	for n := 0; n <= 4096004095; n += 39119 {
		back(n)
	}
	for _, p := range places() {
		n := Addr(p)
		if q, ok := At(n); ok != (n >= 0) || ok && q != p || !ok && q != (api.Place{}) {
			t.Errorf("At(Addr(%v)) = %v, %v", p, q, ok)
		}
	}
}

// P11.2

func TestBase(t *testing.T) {
	want := prims()
	if len(want) != 102 || len(want)+len(hidden()) != op.Count {
		t.Fatalf("%d entries, and %d are hidden", len(want), len(hidden()))
	}
	got := Base()
	if !slices.Equal(got, want) {
		t.Errorf("Base() = %v, not %v", got, want)
	}
	if got[0] != (Entry{Name: "EXIT", Kind: Prim, Val: op.Exit}) || got[101] != (Entry{Name: "IMMEDIATE", Kind: Prim, Val: op.Immediate}) {
		t.Errorf("the first one is %v, the last one %v", got[0], got[101])
	}
	for _, e := range got {
		if !Sane(e) {
			t.Errorf("%v is not Sane", e)
		}
	}
}

func TestBaseTwice(t *testing.T) {
	a, b := Base(), Base()
	one, two := adds(t, a, con("one", 1)), adds(t, b, con("two", 2))
	again := adds(t, a, con("again", 3))
	if !slices.Equal(a, b) || !slices.Equal(a, prims()) {
		t.Error("what is added changed Base")
	}
	if one[102].Name != "ONE" || two[102].Name != "TWO" || again[102].Name != "AGAIN" {
		t.Errorf("%v, %v, %v", one[102], two[102], again[102])
	}
}

func TestFindEachOperation(t *testing.T) {
	l := Base()
	for k, e := range prims() {
		small := lower(e.Name)
		finds(t, l, e.Name, k)
		finds(t, l, small, k)
		finds(t, l, e.Name[:1]+small[1:], k)
		finds(t, l, small[:1]+e.Name[1:], k)
	}
	for _, name := range hidden() {
		findsNothing(t, l, name)
		findsNothing(t, l, lower(name))
		findsNothing(t, l, name[1:])
	}
}

func TestFindNothing(t *testing.T) {
	for _, s := range []string{"", " ", "\x00", "nothing", "dup ", " dup", "du", "dupp", "du p", "dup dup", "\xff", "dup\xff", "ſwap", "tic\u212as", "ｄｕｐ", strings.Repeat("dup", 11), strings.Repeat("\x00", 1<<20)} {
		findsNothing(t, Base(), s)
		findsNothing(t, nil, s)
		findsNothing(t, []Entry{}, s)
		findsNothing(t, make([]Entry, 5), s)
	}
	for _, s := range []string{"dup", "EXIT", "immediate"} {
		findsNothing(t, nil, s)
		findsNothing(t, []Entry{}, s)
	}
}

func TestFindTheLastOne(t *testing.T) {
	a, b := con("A", 1), con("B", 2)
	for _, x := range []struct {
		l    []Entry
		want int
	}{{[]Entry{a}, 0}, {[]Entry{a, b}, 0}, {[]Entry{b, a}, 1}, {[]Entry{a, a}, 1}, {[]Entry{a, b, a}, 2}, {[]Entry{a, a, b}, 1}, {[]Entry{a, b, b, b, a, b, b}, 4}} {
		finds(t, x.l, "a", x.want)
		finds(t, x.l, "A", x.want)
	}
	findsNothing(t, []Entry{b, b}, "a")
}

// Names alone are asked for, as they stand, whatever else an entry has.
func TestFindAmongEntriesThatMayNotBe(t *testing.T) {
	long := strings.Repeat("L", 40)
	l := []Entry{
		{}, {Name: "x", Kind: Con}, {Name: "X", Kind: 9}, {Name: "Y", Kind: Prim, Val: -1}, {Name: "y", Kind: Con}, {Name: "A B"}, {Name: long}, {Name: "", Kind: Con}, {Name: "Z", Kind: Colon, P: none}, {Name: "zz"}, {Name: "É"}, {Name: "é"}, {Name: "(LIT)"}, {},
	}
	for _, x := range []struct {
		name string
		want int
	}{{"x", 2}, {"X", 2}, {"y", 3}, {"Y", 3}, {"a b", 5}, {"A b", 5}, {lower(long), 6}, {"z", 8}, {"É", 10}, {"é", 11}, {"(lit)", 12}} {
		finds(t, l, x.name, x.want)
	}
	for _, name := range []string{"", "zz", "ZZ", "Zz", " x", "l"} {
		findsNothing(t, l, name)
	}
}

func TestFindAllTextsOfOneByte(t *testing.T) {
	var l []Entry
	for c := range 256 {
		l = append(l, Entry{Name: string([]byte{byte(c)})})
	}
	for c := range 256 {
		want := c
		if c >= 97 && c <= 122 {
			want = c - 32
		}
		finds(t, l, string([]byte{byte(c)}), want)
	}
}

// P11.3

func TestKinds(t *testing.T) {
	if Prim != 0 || Colon != 1 || Var != 2 || Con != 3 || Does != 4 {
		t.Errorf("Prim %d, Colon %d, Var %d, Con %d, Does %d", Prim, Colon, Var, Con, Does)
	}
}

func TestSane(t *testing.T) {
	for _, x := range []struct {
		e    Entry
		want bool
	}{
		{Entry{}, false}, {Entry{Name: "X"}, false},
		{Entry{Name: "DUP", Val: op.Dup}, true}, {Entry{Name: "OTHER", Val: op.Dup, Imm: true}, true}, {Entry{Name: "E", Val: op.Exit}, true}, {Entry{Name: "E", Val: op.Immediate}, true},
		{Entry{Name: "X", Val: op.Lit}, false}, {Entry{Name: "X", Val: op.Does}, false}, {Entry{Name: "X", Val: -1}, false}, {Entry{Name: "X", Val: 111}, false}, {Entry{Name: "X", Val: least}, false}, {Entry{Name: "X", Val: most}, false},
		{Entry{Name: "X", Val: op.Dup, P: somewhere}, false}, {Entry{Name: "X", Val: op.Dup, P: api.Place{At: 1}}, false}, {Entry{Name: "X", Val: op.Dup, P: api.Place{Th: 1}}, false}, {Entry{Name: "X", Val: op.Dup, P: none}, false},
		{colon("X", api.Place{}), true}, {colon("X", somewhere), true}, {Entry{Name: "X", Kind: Colon, Val: -1, P: somewhere}, true}, {colon("X", none), false}, {colon("X", api.Place{At: 4096}), false}, {colon("X", api.Place{Th: 1000000, At: 4095}), true}, {colon("X", api.Place{Th: 1000001}), false},
		{Entry{Name: "X", Kind: Does}, true}, {Entry{Name: "X", Kind: Does, Val: -64, P: somewhere}, true}, {Entry{Name: "X", Kind: Does, Val: 64, P: none}, false}, {Entry{Name: "X", Kind: Does, Val: 64, P: api.Place{At: -1}}, false},
		// Of a Var and a Con nothing but their names is asked for.
		{Entry{Name: "X", Kind: Var, Val: least}, true}, {Entry{Name: "X", Kind: Var, Val: 64, P: none}, true}, {Entry{Name: "X", Kind: Con, Val: most, P: somewhere}, true}, {con("X", 111), true},
		{Entry{Name: "X", Kind: -1}, false}, {Entry{Name: "X", Kind: 5}, false}, {Entry{Name: "X", Kind: least}, false}, {Entry{Name: "X", Kind: most}, false}, {Entry{Name: "X", Kind: 5, Val: op.Dup}, false}, {Entry{Name: "X", Kind: -1, Val: op.Dup}, false},
		{con("", 0), false}, {con("x", 0), false}, {con("Xx", 0), false}, {con("xX", 0), false}, {con("dup", op.Dup), false}, {con("X Y", 0), false}, {con(" ", 0), false},
		{con(strings.Repeat("A", 31), 0), true}, {con(strings.Repeat("A", 32), 0), false}, {con(strings.Repeat("a", 31), 0), false}, {con(strings.Repeat("é", 15), 0), true}, {con(strings.Repeat("é", 16), 0), false},
	} {
		if got := Sane(x.e); got != x.want {
			t.Errorf("Sane(%+v) = %v", x.e, got)
		}
	}
}

func TestSaneOfEachByteOfAName(t *testing.T) {
	for c := range 256 {
		one := string([]byte{byte(c)})
		want := c > 32 && (c < 97 || c > 122)
		for _, name := range []string{one, one + "X", "X" + one, "X" + one + "Y", one + one, strings.Repeat("X", 30) + one} {
			if got := Sane(con(name, 0)); got != want {
				t.Errorf("Sane of the name %q = %v", name, got)
			}
		}
	}
}

func TestSaneOfEachOperation(t *testing.T) {
	for _, v := range vals() {
		_, hides := hidden()[v]
		want := v >= 0 && v <= 110 && !hides
		if got := Sane(Entry{Name: "X", Kind: Prim, Val: v}); got != want {
			t.Errorf("Sane of a Prim of %d = %v", v, got)
		}
		if Sane(Entry{Name: "X", Kind: Prim, Val: v, P: somewhere}) {
			t.Errorf("Sane of a Prim of %d with a place", v)
		}
	}
}

func TestSaneOfAllMixes(t *testing.T) {
	for _, e := range entries() {
		if got := Sane(e); got != sane(e) {
			t.Errorf("Sane(%+v) = %v", e, got)
		}
	}
}

func TestAddEachKind(t *testing.T) {
	l := Base()
	for k, x := range []struct {
		e    Entry
		code []api.Ins
	}{
		{Entry{"twice", true, Prim, op.Twice, api.Place{}}, []api.Ins{{Op: 43}}},
		{Entry{"sq", false, Colon, 0, somewhere}, []api.Ins{{Op: 3, Arg: number}}},
		{Entry{"v", false, Var, 64, api.Place{}}, []api.Ins{{Op: 0, Arg: 64}}},
		{Entry{"c", true, Con, -7, api.Place{}}, []api.Ins{{Op: 0, Arg: -7}}},
		{Entry{"d", false, Does, 64, somewhere}, []api.Ins{{Op: 0, Arg: 64}, {Op: 3, Arg: number}}},
	} {
		m := adds(t, l, x.e)
		want := x.e
		want.Name = upper(x.e.Name)
		if !slices.Equal(m, append(slices.Clone(l), want)) {
			t.Errorf("%v is not behind the others: %v", x.e, m[len(l):])
		}
		finds(t, m, x.e.Name, 102+k)
		finds(t, m, want.Name, 102+k)
		if got, ok := Code(m, 102+k); !ok || !slices.Equal(got, x.code) {
			t.Errorf("Code of %v = %v, %v, not %v", x.e, got, ok, x.code)
		}
		l = m
	}
}

func TestAddTellsNamesInCapitals(t *testing.T) {
	for _, x := range []struct{ name, want string }{
		{"sq", "SQ"}, {"Sq", "SQ"}, {"SQ", "SQ"}, {"a1?z", "A1?Z"}, {"`{}~", "`{}~"}, {"é", "é"}, {"aéz", "AéZ"}, {"\xffa", "\xffA"}, {"(lit)", "(LIT)"}, {"azAZ", "AZAZ"}, {strings.Repeat("q", 31), strings.Repeat("Q", 31)},
	} {
		if got := adds(t, nil, con(x.name, 5)); len(got) != 1 || got[0] != con(x.want, 5) {
			t.Errorf("Add of %q: %v", x.name, got)
		}
	}
}

func TestAddThrows(t *testing.T) {
	long := strings.Repeat("a", 32)
	for _, x := range []struct {
		n    int
		e    Entry
		want api.Throw
	}{
		{3, con("", 0), api.Nameless}, {3, con(long, 0), api.Nameless}, {3, con(strings.Repeat("é", 16), 0), api.Nameless}, {3, con(strings.Repeat(" ", 1000), 0), api.Nameless},
		{3, con(" ", 0), api.Host}, {3, con("a b", 0), api.Host}, {3, con("a\x00", 0), api.Host}, {3, Entry{Name: "x"}, api.Host}, {3, Entry{Name: "x", Kind: 5}, api.Host}, {3, Entry{Name: "x", Kind: -1}, api.Host},
		{3, Entry{Name: "x", Val: 111}, api.Host}, {3, Entry{Name: "x", Val: op.Dup, P: somewhere}, api.Host}, {3, colon("x", none), api.Host}, {3, Entry{Name: "x", Kind: Does, P: none}, api.Host},
		{511, con("x", 0), api.OK}, {512, con("x", 0), api.Full}, {513, con("x", 0), api.Full}, {1000, con("x", 0), api.Full}, {510, con("x", 0), api.OK}, {0, con("x", 0), api.OK},
		// Where more than one applies.
		{3, Entry{}, api.Nameless}, {3, Entry{Name: long, Kind: 7}, api.Nameless}, {3, Entry{Kind: Colon, P: none}, api.Nameless},
		{512, con("", 0), api.Nameless}, {512, con(long, 0), api.Nameless}, {513, Entry{Kind: 9}, api.Nameless},
		{512, con("a b", 0), api.Host}, {512, Entry{Name: "x", Kind: 5}, api.Host}, {513, Entry{Name: "x"}, api.Host}, {513, colon("x", none), api.Host},
	} {
		l := roomy(cons(x.n))
		was := whole(l)
		got, e := Add(l, x.e)
		if e != x.want {
			t.Errorf("Add(%d entries, %+v): throw %d, not %d", x.n, x.e, int(e), int(x.want))
		}
		want := was[:x.n]
		if x.want == api.OK {
			want = append(slices.Clone(want), con(upper(x.e.Name), x.e.Val))
		}
		if !slices.Equal(got, want) {
			t.Errorf("Add(%d entries, %+v): %d entries, not %d", x.n, x.e, len(got), len(want))
		}
		kept(t, "Add", l, was)
	}
}

func TestAddAllMixes(t *testing.T) {
	lists := [][]Entry{nil, {}, prims()[:2], {{}, {Name: "x", Kind: 9}}, cons(511), cons(512), cons(513)}
	for k, l := range lists {
		if l != nil {
			lists[k] = roomy(l)
		}
	}
	for _, l := range lists {
		was := whole(l)
		for _, e := range entries() {
			got, th := Add(l, e)
			if want := thrown(len(l), e); th != want {
				t.Errorf("Add(%d entries, %+v): throw %d, not %d", len(l), e, int(th), int(want))
				continue
			}
			n := len(l)
			if th == api.OK {
				n++
			}
			if len(got) != n || !slices.Equal(got[:len(l)], was[:len(l)]) {
				t.Errorf("Add(%d entries, %+v): %d entries, throw %d", len(l), e, len(got), int(th))
				continue
			}
			e.Name = upper(e.Name)
			if th == api.OK && got[len(l)] != e {
				t.Errorf("Add: %+v, not %+v", got[len(l)], e)
			}
		}
		kept(t, "Add", l, was)
	}
}

// Whether the others of a list may be is not asked.
func TestAddToEntriesThatMayNotBe(t *testing.T) {
	l := []Entry{{}, {Name: "x", Kind: 9}, colon("Y", none)}
	if got := adds(t, l, con("z", 1)); !slices.Equal(got, []Entry{{}, {Name: "x", Kind: 9}, colon("Y", none), con("Z", 1)}) {
		t.Errorf("Add: %v", got)
	}
}

// P11.4

func TestCode(t *testing.T) {
	last := api.Place{Th: 1000000, At: 4095}
	for _, x := range []struct {
		e    Entry
		want []api.Ins
	}{
		{Entry{Name: "DUP", Val: op.Dup}, []api.Ins{{Op: 18}}}, {Entry{Name: "X", Val: op.Exit, Imm: true}, []api.Ins{{Op: 4}}}, {Entry{Name: "X", Val: op.Immediate}, []api.Ins{{Op: 110}}},
		{colon("X", api.Place{}), []api.Ins{{Op: 3}}}, {colon("X", last), []api.Ins{{Op: 3, Arg: 4096004095}}}, {Entry{Name: "X", Kind: Colon, Val: 77, P: somewhere}, []api.Ins{{Op: 3, Arg: number}}},
		{Entry{Name: "X", Kind: Var}, []api.Ins{{Op: 0}}}, {Entry{Name: "X", Kind: Var, Val: 2040}, []api.Ins{{Op: 0, Arg: 2040}}}, {Entry{Name: "X", Kind: Var, Val: -1, P: none}, []api.Ins{{Op: 0, Arg: -1}}},
		{con("X", least), []api.Ins{{Op: 0, Arg: least}}}, {con("X", most), []api.Ins{{Op: 0, Arg: most}}}, {Entry{Name: "X", Kind: Con, Val: 5, P: somewhere}, []api.Ins{{Op: 0, Arg: 5}}},
		{Entry{Name: "X", Kind: Does}, []api.Ins{{Op: 0}, {Op: 3}}}, {Entry{Name: "X", Kind: Does, Val: least, P: last}, []api.Ins{{Op: 0, Arg: least}, {Op: 3, Arg: 4096004095}}},
		{Entry{}, nil}, {con("x", 1), nil}, {con("", 1), nil}, {con("X Y", 1), nil}, {con(strings.Repeat("X", 32), 1), nil}, {Entry{Name: "X", Kind: 5, Val: op.Dup}, nil}, {Entry{Name: "X", Kind: -1, Val: op.Dup}, nil},
		{Entry{Name: "X", Val: op.Lit}, nil}, {Entry{Name: "X", Val: 111}, nil}, {Entry{Name: "X", Val: -1}, nil}, {Entry{Name: "X", Val: op.Dup, P: somewhere}, nil}, {colon("X", none), nil}, {Entry{Name: "X", Kind: Does, P: none}, nil},
	} {
		got, ok := Code([]Entry{con("A", 1), x.e, con("B", 2)}, 1)
		if ok != (x.want != nil) || !slices.Equal(got, x.want) {
			t.Errorf("Code of %+v = %v, %v, not %v", x.e, got, ok, x.want)
		}
	}
}

func TestCodeAtEachPlace(t *testing.T) {
	l := roomy([]Entry{con("A", 5), {Name: "b", Kind: Con}, con("C", 7)})
	was := whole(l)
	for _, x := range []struct {
		i    int
		want []api.Ins
	}{
		{0, []api.Ins{{Op: 0, Arg: 5}}}, {1, nil}, {2, []api.Ins{{Op: 0, Arg: 7}}}, {3, nil}, {4, nil}, {-1, nil}, {-2, nil}, {-3, nil}, {512, nil}, {1 << 32, nil}, {1<<32 + 2, nil}, {1 << 62, nil}, {most, nil}, {least, nil}, {least + 2, nil},
	} {
		if got, ok := Code(l, x.i); ok != (x.want != nil) || !slices.Equal(got, x.want) {
			t.Errorf("Code at %d = %v, %v, not %v", x.i, got, ok, x.want)
		}
		for _, empty := range [][]Entry{nil, {}, l[:0]} {
			if got, ok := Code(empty, x.i); len(got) != 0 || ok {
				t.Errorf("Code of no entry at %d = %v, %v", x.i, got, ok)
			}
		}
	}
	kept(t, "Code", l, was)
}

func TestCodeOfBase(t *testing.T) {
	l := Base()
	for k, e := range prims() {
		if got, ok := Code(l, k); !ok || !slices.Equal(got, []api.Ins{{Op: e.Val}}) {
			t.Errorf("Code of %s = %v, %v", e.Name, got, ok)
		}
	}
	for _, i := range []int{-1, 102, 103} {
		if got, ok := Code(l, i); len(got) != 0 || ok {
			t.Errorf("Code of Base at %d = %v, %v", i, got, ok)
		}
	}
}

func TestCodeOfAllMixes(t *testing.T) {
	l := roomy(entries())
	was := whole(l)
	for i, e := range was[:len(l)] {
		want, wantOK := laid(e)
		if got, ok := Code(l, i); ok != wantOK || !slices.Equal(got, want) {
			t.Errorf("Code of %+v = %v, %v, not %v, %v", e, got, ok, want, wantOK)
		}
	}
	kept(t, "Code", l, was)
}

// P11.5

func TestASecondWordOfAName(t *testing.T) {
	l := adds(t, Base(), con("dup", 5))
	finds(t, Base(), "dup", 10)
	finds(t, l, "dup", 102)
	if got, ok := Code(l, 102); !ok || !slices.Equal(got, []api.Ins{{Op: 0, Arg: 5}}) {
		t.Errorf("Code of the second dup = %v, %v", got, ok)
	}
	// The first one is still there, by its place.
	if got, ok := Code(l, 10); !ok || !slices.Equal(got, []api.Ins{{Op: 18}}) {
		t.Errorf("Code of the first dup = %v, %v", got, ok)
	}
	m := adds(t, l, colon("DUP", somewhere))
	finds(t, m, "Dup", 103)
	finds(t, l, "Dup", 102)
	finds(t, m, "drop", 11)
}

// A whole dictionary is filled, name by name; whatever was added last of a name is found, in this list and in the ones before.
func TestWhatIsAddedIsFound(t *testing.T) {
	last := map[string]int{}
	l := Base()
	for k, e := range l {
		last[e.Name] = k
	}
	var before [][]Entry
	for k := len(l); k < 512; k++ {
		name := []string{"dup", "Sq", "sQ", "a", "+", "é", "A" + fmt.Sprint(k%7), "b" + fmt.Sprint(k), strings.Repeat("z", 1+k%31)}[k%9]
		before = append(before, l)
		l = adds(t, l, con(name, k))
		last[upper(name)] = k
		for s, want := range last {
			finds(t, l, s, want)
		}
	}
	for k, m := range before {
		if len(m) != 102+k || !slices.Equal(m, l[:len(m)]) {
			t.Errorf("the list of %d entries is changed", 102+k)
		}
	}
	if got, e := Add(l, con("more", 1)); e != api.Full || !slices.Equal(got, l) {
		t.Errorf("Add to %d entries: %d entries, throw %d", len(l), len(got), int(e))
	}
}

// P1 and R3

func TestTwoAddsToOneList(t *testing.T) {
	for _, l := range [][]Entry{nil, {}, roomy(nil), roomy(cons(1)), roomy(cons(100)), roomy(cons(511)), Base(), adds(t, Base(), con("x", 1))} {
		was := whole(l)
		a := adds(t, l, con("first", 1))
		b := adds(t, l, colon("second", somewhere))
		c := adds(t, a[:len(l)], con("third", 3))
		n := len(l)
		if a[n] != con("FIRST", 1) || b[n] != colon("SECOND", somewhere) || c[n] != con("THIRD", 3) {
			t.Errorf("behind %d entries: %v, %v, %v", n, a[n], b[n], c[n])
		}
		kept(t, "Add", l, was)
	}
}

func TestFindChangesNothing(t *testing.T) {
	l := roomy([]Entry{{Name: "x"}, con("X", 1), {}, con("Y", 2), {Name: "y"}})
	was := whole(l)
	for _, name := range append(names(), "spare0", "SPARE1") {
		want, found := 0, false
		for k, e := range was[:len(l)] {
			if name != "" && e.Name == upper(name) {
				want, found = k, true
			}
		}
		if got, ok := Find(l, name); got != want || ok != found {
			t.Errorf("Find(%q) = %d, %v, not %d, %v", name, got, ok, want, found)
		}
	}
	kept(t, "Find", l, was)
}

func TestGreatNamesAndLists(t *testing.T) {
	great := strings.Repeat("x", 1<<20)
	if Sane(con(great, 0)) || Sane(con(upper(great), 0)) {
		t.Error("a name of a million bytes may be")
	}
	l := make([]Entry, 100000)
	l[7] = con("SEVEN", 7)
	l[8] = con(upper(great), 8)
	finds(t, l, "seven", 7)
	finds(t, l, great, 8)
	findsNothing(t, l, "eight")
	if got, e := Add(l, con(great, 1)); e != api.Nameless || len(got) != len(l) {
		t.Errorf("Add of a great name: %d entries, throw %d", len(got), int(e))
	}
	if got, e := Add(l, con("x", 1)); e != api.Full || len(got) != len(l) {
		t.Errorf("Add to many: %d entries, throw %d", len(got), int(e))
	}
	if got, ok := Code(l, 7); !ok || !slices.Equal(got, []api.Ins{{Op: 0, Arg: 7}}) {
		t.Errorf("Code = %v, %v", got, ok)
	}
	if got, ok := Code(l, len(l)-1); ok || len(got) != 0 {
		t.Errorf("Code of nothing = %v, %v", got, ok)
	}
}
