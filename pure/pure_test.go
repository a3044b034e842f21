package pure

import (
	"fmt"
	"math"
	"math/big"
	"slices"
	"strings"
	"testing"

	"tenterhook/api"
	"tenterhook/op"
)

const (
	least    = math.MinInt
	greatest = math.MaxInt
)

// effect is what an operation's cells are, and what is there in their place, as the document writes it.
type effect struct {
	number int
	text   string
}

// moves are the operations that move cells about, and nothing else.
var moves = []effect{
	{18, "a -- a a"}, {19, "a --"}, {20, "a b -- b a"}, {21, "a b -- a b a"}, {22, "a b c -- b c a"}, {23, "a b -- b"}, {24, "a b -- b a b"},
	{25, "a b -- a b a b"}, {26, "a b --"}, {27, "a b c d -- c d a b"}, {28, "a b c d -- a b c d a b"},
}

// needs and leaves are the document's table, from DUP on; where it hangs, of ?DUP alone, what is left is -1.
var (
	needs = []int{
		1, 1, 2, 2, 3, 2, 2, 2, 2, 4, 4, 1, 1, 1, 0,
		2, 2, 2, 2, 2, 2, 3, 3, 1, 1, 1, 1, 1, 1, 2, 2,
		2, 2, 2, 1, 2, 2, 2, 2, 2, 2, 2, 1, 1, 3,
		2, 2, 3, 3, 3, 1, 4, 2, 1, 1, 1, 1,
	}
	leaves = []int{
		2, 0, 2, 3, 3, 1, 3, 4, 0, 4, 6, -1, 1, 0, 1,
		1, 1, 1, 1, 1, 2, 1, 2, 1, 1, 1, 1, 1, 1, 1, 1,
		1, 1, 1, 1, 1, 1, 1, 1, 1, 1, 1, 1, 1, 1,
		2, 2, 2, 2, 2, 2, 2, 2, 1, 1, 1, 1,
	}
)

const (
	first = 18 // DUP
	last  = 74 // ALIGNED
)

// told is all that a call answers, as a text: so a list without elements is the same, nil or not.
func told(d []int, e api.Throw) string { return fmt.Sprintln(d, int(e)) }

// cells are cells at which something turns: 0, the signs, the ends, powers of two, and some in between.
func cells() []int {
	out := []int{0, least, least + 1, least + 2, least + 7}
	for _, n := range []int{1, 2, 3, 7, 8, 9, 63, 64, 65, 1<<31 - 1, 1 << 32, 1<<61 + 1, 1<<62 - 1, 1 << 62, 1<<62 + 1, 6148914691236517205, greatest - 7, greatest - 1, greatest} {
		out = append(out, n, -n)
	}
	return out
}

// fewer are some of these, for operations that need many.
func fewer(n int) []int {
	switch {
	case n <= 2:
		return cells()
	case n == 3:
		return []int{0, 1, 2, 3, -1, -2, -3, 7, -7, least, least + 1, 1 << 62, -1 << 62, 1 << 32, greatest, greatest - 1}
	}
	return []int{0, 1, -1, 5, least, greatest, -1 << 62}
}

// lists are all of just n of these numbers.
func lists(numbers []int, n int) [][]int {
	out := [][]int{nil}
	for range n {
		var next [][]int
		for _, l := range out {
			for _, x := range numbers {
				next = append(next, append(slices.Clone(l), x))
			}
		}
		out = next
	}
	return out
}

// spare are cells behind the end of a list that is handed in: no call may see or touch them.
const spare = 8

// stack is a stack of n cells, no two of them the same, which has room behind its end.
func stack(n int) []int {
	out := make([]int, n+spare)
	for k := range out {
		out[k] = 1000 + 13*k
	}
	return out[:n]
}

// on is a stack of n cells with these on top, with room behind its end.
func on(n int, x ...int) []int {
	d := stack(n + len(x))
	copy(d[n:], x)
	return d
}

// numbersOf are the numbers of operations named in a row.
func numbersOf(t *testing.T, words string) []int {
	t.Helper()
	var out []int
	for w := range strings.FieldsSeq(words) {
		o, ok := op.Find(w)
		if !ok {
			t.Fatalf("no operation %q", w)
		}
		out = append(out, o)
	}
	return out
}

func does(t *testing.T, o int, d []int, want string) {
	t.Helper()
	if got := told(Do(o, d)); got != want {
		t.Fatalf("%d, %s, of %v = %s, not %s", o, op.Name(o), d, got, want)
	}
}

// The model: the document's words, of whole numbers.

func whole(n int) *big.Int { return big.NewInt(int64(n)) }

func power(n uint) *big.Int { return new(big.Int).Lsh(big.NewInt(1), n) }

func plus(a, b *big.Int) *big.Int { return new(big.Int).Add(a, b) }

func times(a, b *big.Int) *big.Int { return new(big.Int).Mul(a, b) }

// unsigned is a cell without a sign.
func unsigned(n int) *big.Int {
	if n < 0 {
		return plus(whole(n), power(64))
	}
	return whole(n)
}

// signedDouble is the number of two cells, the low one first.
func signedDouble(lo, hi int) *big.Int { return plus(unsigned(lo), times(power(64), whole(hi))) }

// round is a whole number, gone round to a cell.
func round(b *big.Int) int {
	m := new(big.Int).Mod(b, power(64))
	if m.Bit(63) == 1 {
		m.Sub(m, power(64))
	}
	return int(m.Int64())
}

// low and high are the cells of a double, gone round.
func low(b *big.Int) int  { return round(b) }
func high(b *big.Int) int { return round(new(big.Int).Rsh(b, 64)) }

func flag(ok bool) int {
	if ok {
		return -1
	}
	return 0
}

// down is the quotient rounded down, and what is left.
func down(a, b *big.Int) (*big.Int, *big.Int) {
	q, r := new(big.Int).QuoRem(a, b, new(big.Int))
	if r.Sign()*b.Sign() < 0 {
		q.Sub(q, big.NewInt(1))
		r.Add(r, b)
	}
	return q, r
}

// toNought is the quotient rounded towards 0, and what is left.
func toNought(a, b *big.Int) (*big.Int, *big.Int) {
	return new(big.Int).QuoRem(a, b, new(big.Int))
}

// divided is what is left, and the quotient, as cells; the quotient may have so many digits of two and, if signs, a sign.
func divided(a, b *big.Int, signs bool, by func(a, b *big.Int) (*big.Int, *big.Int)) (int, int, api.Throw) {
	if b.Sign() == 0 {
		return 0, 0, api.Zero
	}
	q, r := by(a, b)
	fits := q.Sign() >= 0 && q.BitLen() <= 64
	if signs {
		fits = whole(round(q)).Cmp(q) == 0
	}
	if !fits {
		return 0, 0, api.Range
	}
	return round(r), round(q), api.OK
}

// quotients is what is left, and the quotient, of an operation that divides, x being its cells.
func quotients(name string, x []int) (r, q int, e api.Throw) {
	switch name {
	case "/", "MOD", "/MOD":
		return divided(whole(x[0]), whole(x[1]), true, down)
	case "*/", "*/MOD":
		return divided(times(whole(x[0]), whole(x[1])), whole(x[2]), true, down)
	case "UM/MOD":
		return divided(plus(unsigned(x[0]), times(power(64), unsigned(x[1]))), unsigned(x[2]), false, down)
	case "FM/MOD":
		return divided(signedDouble(x[0], x[1]), whole(x[2]), true, down)
	}
	return divided(signedDouble(x[0], x[1]), whole(x[2]), true, toNought)
}

// digits makes a cell of one of the digits of two of each of two cells at each place.
func digits(a, b int, one func(a, b uint) bool) int {
	out := new(big.Int)
	for k := range 64 {
		if one(unsigned(a).Bit(k), unsigned(b).Bit(k)) {
			out.SetBit(out, k, 1)
		}
	}
	return round(out)
}

// shifted is a cell, without a sign, shifted by n, to the left or to the right.
func shifted(a, n int, left bool) int {
	switch {
	case n < 0 || n > 63:
		return 0
	case left:
		return round(times(unsigned(a), power(uint(n))))
	}
	q, _ := down(unsigned(a), power(uint(n)))
	return round(q)
}

// counted is what is there in the place of x, of the operations that lay what comes of numbers.
func counted(name string, x []int) ([]int, api.Throw) {
	a := whole(x[0])
	switch name {
	case "/", "*/":
		_, q, e := quotients(name, x)
		return []int{q}, e
	case "MOD":
		r, _, e := quotients(name, x)
		return []int{r}, e
	case "/MOD", "*/MOD", "UM/MOD", "FM/MOD", "SM/REM":
		r, q, e := quotients(name, x)
		return []int{r, q}, e
	case "UM*":
		b := times(unsigned(x[0]), unsigned(x[1]))
		return []int{low(b), high(b)}, api.OK
	case "M*":
		b := times(a, whole(x[1]))
		return []int{low(b), high(b)}, api.OK
	case "S>D":
		return []int{low(a), high(a)}, api.OK
	case "D+":
		b := plus(signedDouble(x[0], x[1]), signedDouble(x[2], x[3]))
		return []int{low(b), high(b)}, api.OK
	case "DNEGATE":
		b := new(big.Int).Neg(signedDouble(x[0], x[1]))
		return []int{low(b), high(b)}, api.OK
	case "WITHIN":
		n, hi := new(big.Int).Sub(a, whole(x[1])), new(big.Int).Sub(whole(x[2]), whole(x[1]))
		return []int{flag(n.Mod(n, power(64)).Cmp(hi.Mod(hi, power(64))) < 0)}, api.OK
	}
	if len(x) == 1 {
		return []int{ofOne(name, x[0])}, api.OK
	}
	return []int{ofTwo(name, x[0], x[1])}, api.OK
}

func ofOne(name string, n int) int {
	a := whole(n)
	switch name {
	case "1+", "CHAR+":
		return round(plus(a, whole(1)))
	case "1-":
		return round(plus(a, whole(-1)))
	case "2*":
		return round(times(a, whole(2)))
	case "2/":
		q, _ := down(a, whole(2))
		return round(q)
	case "NEGATE":
		return round(times(a, whole(-1)))
	case "ABS":
		return round(new(big.Int).Abs(a))
	case "INVERT":
		return digits(n, 0, func(a, _ uint) bool { return a == 0 })
	case "0=":
		return flag(a.Sign() == 0)
	case "0<":
		return flag(a.Sign() < 0)
	case "CELLS":
		return round(times(a, whole(8)))
	case "CELL+":
		return round(plus(a, whole(8)))
	case "ALIGNED":
		_, over := down(a, whole(8))
		if over.Sign() > 0 {
			a = plus(a, new(big.Int).Sub(whole(8), over))
		}
		return round(a)
	}
	panic(name)
}

func ofTwo(name string, m, n int) int {
	a, b := whole(m), whole(n)
	switch name {
	case "+":
		return round(plus(a, b))
	case "-":
		return round(new(big.Int).Sub(a, b))
	case "*":
		return round(times(a, b))
	case "MIN", "MAX":
		if (a.Cmp(b) < 0) == (name == "MIN") {
			return m
		}
		return n
	case "AND":
		return digits(m, n, func(a, b uint) bool { return a+b == 2 })
	case "OR":
		return digits(m, n, func(a, b uint) bool { return a+b > 0 })
	case "XOR":
		return digits(m, n, func(a, b uint) bool { return a != b })
	case "LSHIFT":
		return shifted(m, n, true)
	case "RSHIFT":
		return shifted(m, n, false)
	case "=":
		return flag(a.Cmp(b) == 0)
	case "<>":
		return flag(a.Cmp(b) != 0)
	case "<":
		return flag(a.Cmp(b) < 0)
	case ">":
		return flag(a.Cmp(b) > 0)
	case "U<":
		return flag(unsigned(m).Cmp(unsigned(n)) < 0)
	}
	panic(name)
}

// moved is what is there in the place of x, as an effect tells.
func moved(text string, x []int) []int {
	before, behind, _ := strings.Cut(text, "--")
	names := strings.Fields(before)
	var out []int
	for _, name := range strings.Fields(behind) {
		out = append(out, x[slices.Index(names, name)])
	}
	return out
}

// deep is what is there of the operations that look below their cells.
func deep(name string, l []int, n int) ([]int, api.Throw) {
	if n < 0 || n >= len(l) {
		return nil, api.Under
	}
	at := len(l) - 1 - n
	if name == "PICK" {
		return append(slices.Clone(l), l[at]), api.OK
	}
	return append(slices.Delete(slices.Clone(l), at, at+1), l[at]), api.OK
}

// behind is what an operation does to d, which has as many cells as it needs.
func behind(o int, d []int) ([]int, api.Throw) {
	left := len(d) - needs[o-first]
	l, x := slices.Clone(d[:left]), slices.Clone(d[left:])
	switch name := op.Name(o); name {
	case "?DUP":
		if x[0] != 0 {
			x = append(x, x[0])
		}
		return append(l, x...), api.OK
	case "PICK", "ROLL":
		return deep(name, l, x[0])
	case "DEPTH":
		return append(l, len(d)), api.OK
	default:
		for _, m := range moves {
			if m.number == o {
				return append(l, moved(m.text, x)...), api.OK
			}
		}
		laid, e := counted(name, x)
		return append(l, laid...), e
	}
}

// model is what the document asks of Do.
func model(o int, d []int) string {
	if o < first || o > last {
		return told(d, api.Host)
	}
	if len(d) < needs[o-first] {
		return told(d, api.Under)
	}
	if len(d) > 64 {
		return told(d, api.Over)
	}
	out, e := behind(o, d)
	if e != api.OK {
		return told(d, e)
	}
	if len(out) > 64 {
		return told(d, api.Over)
	}
	return told(out, api.OK)
}

// others are numbers of no operation, among them such as are one's in their low digits of two.
func others() []int {
	out := []int{least, least + 1, least + 18, least + 74, -1 << 32, -1<<32 + 18, -256 + 18, -129, -128, -111, -110, -74, -18, -2, -1, 111, 112, 127, 128, 256, 256 + 18, 1<<16 + 18, 1 << 31, 1 << 32, 1<<32 + 18, 1<<63 - 2, greatest}
	for k := range 200 {
		out = append(out, -1-k, 111+k)
	}
	return out
}

// P9.2: hand-written

// example is words in a row, of cells, and what is there in their place; with a throw, what there is.
type example struct {
	words   string
	x, want []int
	e       api.Throw
}

func checkExamples(t *testing.T, examples []example) {
	t.Helper()
	for _, x := range examples {
		l := numbersOf(t, x.words)
		// With others below, and with none; the others stay as they were, also beside a throw.
		for _, n := range []int{0, 1, 5, 50} {
			if got := told(All(l, on(n, x.x...))); got != told(on(n, x.want...), x.e) {
				t.Errorf("%s of %v on %d cells = %s, not %v, %d", x.words, x.x, n, got, x.want, x.e)
			}
		}
	}
}

func TestMoves(t *testing.T) {
	checkExamples(t, []example{
		{"dup", []int{4}, []int{4, 4}, api.OK}, {"drop", []int{4}, nil, api.OK}, {"swap", []int{4, 5}, []int{5, 4}, api.OK}, {"over", []int{4, 5}, []int{4, 5, 4}, api.OK}, {"rot", []int{4, 5, 6}, []int{5, 6, 4}, api.OK},
		{"nip", []int{4, 5}, []int{5}, api.OK}, {"tuck", []int{4, 5}, []int{5, 4, 5}, api.OK}, {"2dup", []int{4, 5}, []int{4, 5, 4, 5}, api.OK}, {"2drop", []int{4, 5}, nil, api.OK}, {"2swap", []int{4, 5, 6, 7}, []int{6, 7, 4, 5}, api.OK},
		{"2over", []int{4, 5, 6, 7}, []int{4, 5, 6, 7, 4, 5}, api.OK},
		{"?dup", []int{4}, []int{4, 4}, api.OK}, {"?dup", []int{0}, []int{0}, api.OK}, {"?dup", []int{-1}, []int{-1, -1}, api.OK}, {"?dup", []int{least}, []int{least, least}, api.OK}, {"?dup", []int{1 << 32}, []int{1 << 32, 1 << 32}, api.OK},
		{"pick", []int{7, 8, 9, 0}, []int{7, 8, 9, 9}, api.OK}, {"pick", []int{7, 8, 9, 1}, []int{7, 8, 9, 8}, api.OK}, {"pick", []int{7, 8, 9, 2}, []int{7, 8, 9, 7}, api.OK},
		{"roll", []int{7, 8, 9, 0}, []int{7, 8, 9}, api.OK}, {"roll", []int{7, 8, 9, 1}, []int{7, 9, 8}, api.OK}, {"roll", []int{7, 8, 9, 2}, []int{8, 9, 7}, api.OK},
		{"pick", []int{7, -1}, []int{7, -1}, api.Under}, {"roll", []int{7, -1}, []int{7, -1}, api.Under}, {"pick", []int{least}, []int{least}, api.Under}, {"roll", []int{greatest}, []int{greatest}, api.Under}, {"pick", []int{7, 1 << 32}, []int{7, 1 << 32}, api.Under},
		{"dup dup swap nip tuck", []int{3}, []int{3, 3, 3}, api.OK}, {"rot rot rot", []int{1, 2, 3}, []int{1, 2, 3}, api.OK}, {"over over", []int{1, 2}, []int{1, 2, 1, 2}, api.OK}, {"swap over", []int{1, 2}, []int{2, 1, 2}, api.OK},
	})
}

func TestSumsAndTheLike(t *testing.T) {
	checkExamples(t, []example{
		{"+", []int{4, 5}, []int{9}, api.OK}, {"-", []int{4, 5}, []int{-1}, api.OK}, {"*", []int{-4, 5}, []int{-20}, api.OK}, {"1+", []int{4}, []int{5}, api.OK}, {"1-", []int{4}, []int{3}, api.OK}, {"2*", []int{-5}, []int{-10}, api.OK}, {"2/", []int{5}, []int{2}, api.OK}, {"2/", []int{-5}, []int{-3}, api.OK}, {"2/", []int{-1}, []int{-1}, api.OK},
		{"negate", []int{4}, []int{-4}, api.OK}, {"negate", []int{0}, []int{0}, api.OK}, {"abs", []int{-4}, []int{4}, api.OK}, {"abs", []int{4}, []int{4}, api.OK}, {"min", []int{4, -5}, []int{-5}, api.OK}, {"max", []int{4, -5}, []int{4}, api.OK}, {"min", []int{-5, 4}, []int{-5}, api.OK}, {"max", []int{-5, 4}, []int{4}, api.OK}, {"min", []int{4, 4}, []int{4}, api.OK},
		// The ends: what goes round.
		{"+", []int{greatest, 1}, []int{least}, api.OK}, {"+", []int{least, -1}, []int{greatest}, api.OK}, {"+", []int{least, least}, []int{0}, api.OK}, {"+", []int{greatest, greatest}, []int{-2}, api.OK}, {"+", []int{least, greatest}, []int{-1}, api.OK},
		{"-", []int{least, 1}, []int{greatest}, api.OK}, {"-", []int{greatest, -1}, []int{least}, api.OK}, {"-", []int{0, least}, []int{least}, api.OK}, {"-", []int{least, least}, []int{0}, api.OK}, {"-", []int{least, greatest}, []int{1}, api.OK}, {"-", []int{greatest, least}, []int{-1}, api.OK},
		{"*", []int{least, -1}, []int{least}, api.OK}, {"*", []int{least, 2}, []int{0}, api.OK}, {"*", []int{greatest, 2}, []int{-2}, api.OK}, {"*", []int{greatest, greatest}, []int{1}, api.OK}, {"*", []int{least, least}, []int{0}, api.OK}, {"*", []int{1 << 32, 1 << 32}, []int{0}, api.OK}, {"*", []int{1 << 32, 1 << 31}, []int{least}, api.OK},
		{"1+", []int{greatest}, []int{least}, api.OK}, {"1+", []int{least}, []int{least + 1}, api.OK}, {"1-", []int{least}, []int{greatest}, api.OK}, {"1-", []int{greatest}, []int{greatest - 1}, api.OK},
		{"2*", []int{least}, []int{0}, api.OK}, {"2*", []int{greatest}, []int{-2}, api.OK}, {"2/", []int{least}, []int{-1 << 62}, api.OK}, {"2/", []int{greatest}, []int{1<<62 - 1}, api.OK},
		{"negate", []int{least}, []int{least}, api.OK}, {"negate", []int{greatest}, []int{-greatest}, api.OK}, {"abs", []int{least}, []int{least}, api.OK}, {"abs", []int{least + 1}, []int{greatest}, api.OK}, {"abs", []int{greatest}, []int{greatest}, api.OK},
		{"min", []int{least, greatest}, []int{least}, api.OK}, {"max", []int{least, greatest}, []int{greatest}, api.OK}, {"min", []int{greatest, least}, []int{least}, api.OK}, {"max", []int{greatest, least}, []int{greatest}, api.OK},
		{"cells", []int{3}, []int{24}, api.OK}, {"cells", []int{1 << 61}, []int{0}, api.OK}, {"cells", []int{1 << 60}, []int{least}, api.OK}, {"cell+", []int{3}, []int{11}, api.OK}, {"cell+", []int{greatest}, []int{least + 7}, api.OK}, {"char+", []int{3}, []int{4}, api.OK}, {"char+", []int{greatest}, []int{least}, api.OK},
		{"aligned", []int{8}, []int{8}, api.OK}, {"aligned", []int{9}, []int{16}, api.OK}, {"aligned", []int{-9}, []int{-8}, api.OK}, {"aligned", []int{-7}, []int{0}, api.OK}, {"aligned", []int{greatest}, []int{least}, api.OK},
	})
}

func TestDigitsAndFlags(t *testing.T) {
	checkExamples(t, []example{
		{"and", []int{12, 10}, []int{8}, api.OK}, {"or", []int{12, 10}, []int{14}, api.OK}, {"xor", []int{12, 10}, []int{6}, api.OK}, {"invert", []int{12}, []int{-13}, api.OK}, {"invert", []int{least}, []int{greatest}, api.OK}, {"and", []int{-1, least}, []int{least}, api.OK}, {"or", []int{least, greatest}, []int{-1}, api.OK}, {"xor", []int{-1, greatest}, []int{least}, api.OK},
		{"lshift", []int{5, 2}, []int{20}, api.OK}, {"rshift", []int{20, 2}, []int{5}, api.OK}, {"lshift", []int{5, 0}, []int{5}, api.OK}, {"rshift", []int{-5, 0}, []int{-5}, api.OK}, {"lshift", []int{3, 63}, []int{least}, api.OK}, {"rshift", []int{-1, 63}, []int{1}, api.OK}, {"rshift", []int{-1, 1}, []int{greatest}, api.OK},
		{"lshift", []int{-1, 64}, []int{0}, api.OK}, {"rshift", []int{-1, 64}, []int{0}, api.OK}, {"lshift", []int{-1, -1}, []int{0}, api.OK}, {"rshift", []int{-1, -1}, []int{0}, api.OK}, {"lshift", []int{-1, -64}, []int{0}, api.OK}, {"rshift", []int{-1, least}, []int{0}, api.OK}, {"lshift", []int{1, greatest}, []int{0}, api.OK}, {"rshift", []int{-1, 1 << 32}, []int{0}, api.OK}, {"lshift", []int{1, least}, []int{0}, api.OK},
		{"=", []int{4, 4}, []int{-1}, api.OK}, {"=", []int{4, 5}, []int{0}, api.OK}, {"<>", []int{4, 4}, []int{0}, api.OK}, {"<>", []int{4, 5}, []int{-1}, api.OK}, {"=", []int{0, 1 << 32}, []int{0}, api.OK},
		{"<", []int{4, 5}, []int{-1}, api.OK}, {"<", []int{5, 4}, []int{0}, api.OK}, {"<", []int{4, 4}, []int{0}, api.OK}, {">", []int{4, 5}, []int{0}, api.OK}, {">", []int{5, 4}, []int{-1}, api.OK}, {">", []int{4, 4}, []int{0}, api.OK},
		{"<", []int{least, greatest}, []int{-1}, api.OK}, {">", []int{least, greatest}, []int{0}, api.OK}, {"<", []int{-1, 0}, []int{-1}, api.OK}, {">", []int{0, -1}, []int{-1}, api.OK},
		{"u<", []int{4, 5}, []int{-1}, api.OK}, {"u<", []int{5, 4}, []int{0}, api.OK}, {"u<", []int{4, 4}, []int{0}, api.OK}, {"u<", []int{1, -1}, []int{-1}, api.OK}, {"u<", []int{-1, 1}, []int{0}, api.OK}, {"u<", []int{greatest, least}, []int{-1}, api.OK},
		{"0=", []int{0}, []int{-1}, api.OK}, {"0=", []int{least}, []int{0}, api.OK}, {"0=", []int{1}, []int{0}, api.OK}, {"0<", []int{-1}, []int{-1}, api.OK}, {"0<", []int{0}, []int{0}, api.OK}, {"0<", []int{greatest}, []int{0}, api.OK}, {"0<", []int{least}, []int{-1}, api.OK},
		{"within", []int{3, 1, 5}, []int{-1}, api.OK}, {"within", []int{1, 1, 5}, []int{-1}, api.OK}, {"within", []int{5, 1, 5}, []int{0}, api.OK}, {"within", []int{0, 1, 5}, []int{0}, api.OK}, {"within", []int{-1, -2, 2}, []int{-1}, api.OK},
		// Bounds that are one, and the wrong way round.
		{"within", []int{3, 3, 3}, []int{0}, api.OK}, {"within", []int{4, 3, 3}, []int{0}, api.OK}, {"within", []int{least, 0, 0}, []int{0}, api.OK}, {"within", []int{3, 5, 1}, []int{0}, api.OK}, {"within", []int{5, 5, 1}, []int{-1}, api.OK}, {"within", []int{0, 5, 1}, []int{-1}, api.OK}, {"within", []int{1, 5, 1}, []int{0}, api.OK}, {"within", []int{least, 5, 1}, []int{-1}, api.OK}, {"within", []int{least, greatest, least + 1}, []int{-1}, api.OK},
	})
}

func TestDivisions(t *testing.T) {
	checkExamples(t, []example{
		{"/mod", []int{7, 2}, []int{1, 3}, api.OK}, {"/mod", []int{-7, 2}, []int{1, -4}, api.OK}, {"/mod", []int{7, -2}, []int{-1, -4}, api.OK}, {"/mod", []int{-7, -2}, []int{-1, 3}, api.OK}, {"/mod", []int{-8, 2}, []int{0, -4}, api.OK},
		{"/", []int{7, 2}, []int{3}, api.OK}, {"/", []int{-7, 2}, []int{-4}, api.OK}, {"/", []int{7, -2}, []int{-4}, api.OK}, {"/", []int{-7, -2}, []int{3}, api.OK}, {"mod", []int{7, 2}, []int{1}, api.OK}, {"mod", []int{-7, 2}, []int{1}, api.OK}, {"mod", []int{7, -2}, []int{-1}, api.OK}, {"mod", []int{-7, -2}, []int{-1}, api.OK},
		{"/", []int{7, 0}, []int{7, 0}, api.Zero}, {"mod", []int{7, 0}, []int{7, 0}, api.Zero}, {"/mod", []int{0, 0}, []int{0, 0}, api.Zero}, {"/", []int{least, -1}, []int{least, -1}, api.Range}, {"mod", []int{least, -1}, []int{least, -1}, api.Range}, {"/mod", []int{least, -1}, []int{least, -1}, api.Range}, {"/mod", []int{least, 1}, []int{0, least}, api.OK}, {"/mod", []int{greatest, -1}, []int{0, -greatest}, api.OK}, {"/mod", []int{least, 0}, []int{least, 0}, api.Zero},
		{"*/", []int{7, 6, 4}, []int{10}, api.OK}, {"*/mod", []int{7, 6, 4}, []int{2, 10}, api.OK}, {"*/mod", []int{-7, 6, 4}, []int{2, -11}, api.OK}, {"*/mod", []int{7, 6, -4}, []int{-2, -11}, api.OK}, {"*/mod", []int{-7, 6, -4}, []int{-2, 10}, api.OK}, {"*/", []int{-7, 6, 4}, []int{-11}, api.OK},
		{"*/", []int{7, 6, 0}, []int{7, 6, 0}, api.Zero}, {"*/mod", []int{0, 0, 0}, []int{0, 0, 0}, api.Zero}, {"*/", []int{greatest, greatest, greatest}, []int{greatest}, api.OK}, {"*/", []int{greatest, 3, 2}, []int{greatest, 3, 2}, api.Range}, {"*/mod", []int{least, -1, 1}, []int{least, -1, 1}, api.Range}, {"*/mod", []int{least, 1, 1}, []int{0, least}, api.OK}, {"*/", []int{least, least, least}, []int{least}, api.OK}, {"*/mod", []int{greatest, greatest, 0}, []int{greatest, greatest, 0}, api.Zero},
		{"um/mod", []int{7, 0, 2}, []int{1, 3}, api.OK}, {"fm/mod", []int{-7, -1, 2}, []int{1, -4}, api.OK}, {"sm/rem", []int{-7, -1, 2}, []int{-1, -3}, api.OK}, {"fm/mod", []int{7, 0, -2}, []int{-1, -4}, api.OK}, {"sm/rem", []int{7, 0, -2}, []int{1, -3}, api.OK}, {"fm/mod", []int{-7, -1, -2}, []int{-1, 3}, api.OK}, {"sm/rem", []int{-7, -1, -2}, []int{-1, 3}, api.OK},
		{"um/mod", []int{7, 2, 0}, []int{7, 2, 0}, api.Zero}, {"fm/mod", []int{7, 2, 0}, []int{7, 2, 0}, api.Zero}, {"sm/rem", []int{7, 2, 0}, []int{7, 2, 0}, api.Zero},
		// Quotients that just fit, and that do not.
		{"um/mod", []int{-1, 1, 2}, []int{1, -1}, api.OK}, {"um/mod", []int{0, 2, 2}, []int{0, 2, 2}, api.Range}, {"um/mod", []int{-1, -2, -1}, []int{-2, -1}, api.OK}, {"um/mod", []int{0, -1, -1}, []int{0, -1, -1}, api.Range}, {"um/mod", []int{-1, 0, 1}, []int{0, -1}, api.OK}, {"um/mod", []int{0, 1, 1}, []int{0, 1, 1}, api.Range},
		{"sm/rem", []int{greatest, 0, 1}, []int{0, greatest}, api.OK}, {"sm/rem", []int{least, 0, 1}, []int{least, 0, 1}, api.Range}, {"sm/rem", []int{least, 0, -1}, []int{0, least}, api.OK}, {"sm/rem", []int{least, -1, 1}, []int{0, least}, api.OK}, {"sm/rem", []int{greatest, -1, 1}, []int{greatest, -1, 1}, api.Range}, {"sm/rem", []int{least, -1, -1}, []int{least, -1, -1}, api.Range},
		{"fm/mod", []int{greatest, 0, 1}, []int{0, greatest}, api.OK}, {"fm/mod", []int{least, 0, 1}, []int{least, 0, 1}, api.Range}, {"fm/mod", []int{least, -1, 1}, []int{0, least}, api.OK}, {"fm/mod", []int{greatest, -1, 1}, []int{greatest, -1, 1}, api.Range}, {"fm/mod", []int{-1, 0, 2}, []int{1, greatest}, api.OK}, {"fm/mod", []int{0, 1, 2}, []int{0, 1, 2}, api.Range}, {"fm/mod", []int{0, 1, -2}, []int{0, least}, api.OK},
		// Rounded towards 0 it fits, rounded down it does not.
		{"sm/rem", []int{1, 1, -2}, []int{1, least}, api.OK}, {"fm/mod", []int{1, 1, -2}, []int{1, 1, -2}, api.Range},
	})
}

func TestDoubles(t *testing.T) {
	checkExamples(t, []example{
		{"um*", []int{3, 4}, []int{12, 0}, api.OK}, {"um*", []int{-1, 2}, []int{-2, 1}, api.OK}, {"um*", []int{-1, -1}, []int{1, -2}, api.OK}, {"m*", []int{3, -4}, []int{-12, -1}, api.OK}, {"m*", []int{-1, -1}, []int{1, 0}, api.OK}, {"m*", []int{least, least}, []int{0, 1 << 62}, api.OK}, {"um*", []int{1 << 32, 1 << 33}, []int{0, 2}, api.OK},
		{"s>d", []int{5}, []int{5, 0}, api.OK}, {"s>d", []int{-5}, []int{-5, -1}, api.OK}, {"s>d", []int{0}, []int{0, 0}, api.OK}, {"s>d", []int{least}, []int{least, -1}, api.OK},
		{"d+", []int{1, 2, 10, 20}, []int{11, 22}, api.OK}, {"d+", []int{-1, 0, 1, 0}, []int{0, 1}, api.OK}, {"d+", []int{-1, greatest, 1, 0}, []int{0, least}, api.OK}, {"d+", []int{0, least, 0, least}, []int{0, 0}, api.OK}, {"d+", []int{5, 0, -7, -1}, []int{-2, -1}, api.OK},
		{"dnegate", []int{1, 0}, []int{-1, -1}, api.OK}, {"dnegate", []int{0, 0}, []int{0, 0}, api.OK}, {"dnegate", []int{0, 1}, []int{0, -1}, api.OK}, {"dnegate", []int{0, least}, []int{0, least}, api.OK}, {"dnegate", []int{5, 7}, []int{-5, -8}, api.OK},
		{"m* 2dup dnegate d+", []int{-7, 9}, []int{0, 0}, api.OK}, {"rot rot um* rot um/mod", []int{5, 77, 9}, []int{7, 42}, api.OK},
	})
}

func TestDepth(t *testing.T) {
	for n := range 64 {
		does(t, op.Depth, stack(n), told(append(slices.Clone(stack(n)), n), api.OK))
	}
	does(t, op.Depth, nil, told([]int{0}, api.OK))
	does(t, op.Depth, []int{}, told([]int{0}, api.OK))
	does(t, op.Depth, stack(64), told(stack(64), api.Over))
}

func TestPickAndRollAtAllPlaces(t *testing.T) {
	for below := range 64 {
		l := stack(below)
		for n := -2; n <= below+2; n++ {
			d := on(below, n)
			picked, rolled := told(d, api.Under), told(d, api.Under)
			if n >= 0 && n < below {
				at := below - 1 - n
				picked = told(slices.Concat(l, l[at:at+1]), api.OK)
				rolled = told(slices.Concat(l[:at], l[at+1:], l[at:at+1]), api.OK)
			}
			does(t, op.Pick, d, picked)
			does(t, op.Roll, d, rolled)
		}
		for _, n := range []int{least, least + below, -1 << 32, 1 << 32, 1<<32 + 1, greatest - below, greatest} {
			does(t, op.Pick, on(below, n), told(on(below, n), api.Under))
			does(t, op.Roll, on(below, n), told(on(below, n), api.Under))
		}
	}
}

// P9.2: the model, and P9.4

func TestAllOperationsAreThoseOfTheModel(t *testing.T) {
	for o := first; o <= last; o++ {
		n := needs[o-first]
		for _, x := range lists(fewer(n), n) {
			for _, below := range []int{0, 3} {
				d := on(below, x...)
				does(t, o, d, model(o, d))
			}
		}
	}
}

func TestHowManyThereAreAndWhatIsBelow(t *testing.T) {
	if len(needs) != last-first+1 || len(leaves) != last-first+1 {
		t.Fatalf("%d, %d rows", len(needs), len(leaves))
	}
	for o := first; o <= last; o++ {
		n, left := needs[o-first], leaves[o-first]
		told, hangs := op.Leaves(o)
		if op.Needs(o) != n || (told != left && hangs) || hangs != (left >= 0) {
			t.Errorf("%s: needs %d, leaves %d, %v", op.Name(o), op.Needs(o), told, hangs)
		}
		for _, x := range lists([]int{0, 1, 2, -5}, n) {
			for _, below := range []int{3, 4, 20, 58} {
				d := on(below, x...)
				got, e := Do(o, d)
				if e != api.OK {
					continue
				}
				want := below + left
				if left < 0 {
					want = below + 2
					if x[0] == 0 {
						want = below + 1
					}
				}
				if len(got) != want {
					t.Errorf("%s of %v leaves %d cells of %d, not %d", op.Name(o), x, len(got), len(d), want)
				}
				// ROLL takes one from below: what lies below that one stays.
				same := below
				if o == op.Roll {
					same = below - 1 - x[0]
				}
				if !slices.Equal(got[:same], d[:same]) {
					t.Errorf("%s of %v: below is %v, not %v", op.Name(o), x, got[:same], d[:same])
				}
			}
		}
	}
}

// P9.1

func TestAllSizes(t *testing.T) {
	for o := first; o <= last; o++ {
		for size := range 71 {
			for _, x := range []int{0, 1, -1, 2, 3, 62, 63, 64, least, greatest} {
				d := stack(size)
				if size > 0 {
					d[size-1] = x
				}
				does(t, o, d, model(o, d))
			}
		}
	}
}

func TestTooFew(t *testing.T) {
	for o := first; o <= last; o++ {
		n := needs[o-first]
		for k := range n {
			does(t, o, stack(k), told(stack(k), api.Under))
			// Zeros, of which some would throw another thing.
			does(t, o, make([]int, k), told(make([]int, k), api.Under))
		}
		if n > 0 {
			does(t, o, nil, told(nil, api.Under))
			does(t, o, []int{}, told(nil, api.Under))
		}
		// Just as many: enough, but for what PICK and ROLL look for below their own.
		d := []int{1, 1, 0, 1}[4-n:]
		want := api.OK
		if o == op.Pick || o == op.Roll {
			want = api.Under
		}
		if _, e := Do(o, d); e != want {
			t.Errorf("%s of just %v throws %d, not %d", op.Name(o), d, e, want)
		}
	}
}

func TestTooMany(t *testing.T) {
	for o := first; o <= last; o++ {
		more := leaves[o-first] - needs[o-first]
		for size := 58; size <= 66; size++ {
			d := stack(size)
			// Divided by 1, picked and rolled by 1, and doubles that are small: nothing else is thrown.
			copy(d[size-3:], []int{1, 0, 1})
			want := api.OK
			if size > 64 || o != op.MayDup && size+more > 64 || o == op.MayDup && size == 64 {
				want = api.Over
			}
			got, e := Do(o, d)
			if e != want {
				t.Errorf("%s of %d cells throws %d, not %d", op.Name(o), size, e, want)
			}
			if want == api.Over && !slices.Equal(got, d) {
				t.Errorf("%s of %d cells: %v, not %v", op.Name(o), size, got, d)
			}
		}
	}
	for _, size := range []int{62, 63, 64, 65, 66} {
		d := stack(size)
		d[size-1] = 0
		want := told(d, api.OK)
		if size > 64 {
			want = told(d, api.Over)
		}
		does(t, op.MayDup, d, want)
	}
	does(t, op.Over2, stack(62), told(append(slices.Clone(stack(62)), 1000+13*58, 1000+13*59), api.OK))
	does(t, op.Over2, stack(63), told(stack(63), api.Over))
	does(t, op.Dup2, stack(63), told(stack(63), api.Over))
	does(t, op.Dup, stack(63), told(append(slices.Clone(stack(63)), 1000+13*62), api.OK))
	does(t, op.Drop, stack(65), told(stack(65), api.Over))
}

func TestNotOfTheGroup(t *testing.T) {
	numbers := others()
	for o := range op.Count {
		if o < first || o > last {
			numbers = append(numbers, o)
		}
	}
	for _, o := range numbers {
		// With cells that are enough, too few and too many: Host is told ahead of those.
		for _, size := range []int{0, 1, 2, 4, 63, 64, 65, 70} {
			does(t, o, stack(size), told(stack(size), api.Host))
		}
		does(t, o, nil, told(nil, api.Host))
	}
	for _, o := range []int{-1, 111, least, greatest, op.Lit, op.Exit, op.Throw, op.Fetch, op.Cas, op.Emit, op.Space, op.PicBegin, op.PicEnd, op.Base, op.Hex, op.Me, op.Note, op.Create, op.Immediate} {
		does(t, o, []int{5, 6, 7}, told([]int{5, 6, 7}, api.Host))
	}
}

func TestWhichOfTwoThrows(t *testing.T) {
	for _, x := range []struct {
		o    int
		size int
		top  []int
		e    api.Throw
	}{
		// More than 64 cells, and what the operation itself would throw.
		{op.Slash, 63, []int{7, 0}, api.Over}, {op.Slash, 62, []int{7, 0}, api.Zero}, {op.Mod, 63, []int{least, -1}, api.Over}, {op.SlashMod, 62, []int{least, -1}, api.Range},
		{op.Pick, 64, []int{-1}, api.Over}, {op.Pick, 63, []int{-1}, api.Under}, {op.Pick, 64, []int{64}, api.Over}, {op.Pick, 63, []int{63}, api.Under}, {op.Pick, 63, []int{62}, api.OK}, {op.Roll, 64, []int{64}, api.Over}, {op.Roll, 63, []int{63}, api.Under}, {op.Roll, 63, []int{62}, api.OK},
		{op.Scale, 62, []int{1, 1, 0}, api.Over}, {op.Scale, 61, []int{1, 1, 0}, api.Zero}, {op.UMod, 62, []int{0, 9, 9}, api.Over}, {op.UMod, 61, []int{0, 9, 9}, api.Range}, {op.FMod, 61, []int{0, 9, 0}, api.Zero}, {op.SRem, 62, []int{0, 9, 0}, api.Over},
		// Divided by 0, and a quotient that is no cell.
		{op.UMod, 0, []int{0, 9, 0}, api.Zero}, {op.FMod, 0, []int{0, greatest, 0}, api.Zero}, {op.SRem, 0, []int{0, least, 0}, api.Zero}, {op.ScaleMod, 0, []int{least, least, 0}, api.Zero}, {op.Slash, 0, []int{least, 0}, api.Zero},
		// Too few, where the cells that are there would throw.
		{op.Slash, 0, []int{0}, api.Under}, {op.Scale, 0, []int{1, 0}, api.Under}, {op.UMod, 0, []int{9, 0}, api.Under}, {op.Pick, 0, nil, api.Under}, {op.Pick, 0, []int{0}, api.Under}, {op.Roll, 0, []int{0}, api.Under}, {op.Roll, 0, []int{-1}, api.Under},
	} {
		d := on(x.size, x.top...)
		got, e := Do(x.o, d)
		if e != x.e || e != api.OK && !slices.Equal(got, d) {
			t.Errorf("%s of %v on %d cells throws %d, not %d: %v", op.Name(x.o), x.top, x.size, e, x.e, got)
		}
	}
}

// P9.3

func TestAll(t *testing.T) {
	for _, x := range []struct {
		l       []int
		d, want []int
		e       api.Throw
	}{
		// Of no operation, also where Do of any would throw.
		{nil, []int{1, 2}, []int{1, 2}, api.OK}, {[]int{}, []int{1}, []int{1}, api.OK}, {nil, nil, nil, api.OK}, {nil, stack(65), stack(65), api.OK},
		{[]int{op.Dup}, []int{3}, []int{3, 3}, api.OK}, {[]int{op.Dup, op.Times}, []int{3}, []int{9}, api.OK}, {[]int{op.Depth, op.Depth, op.Depth, op.Plus}, nil, []int{0, 3}, api.OK}, {[]int{op.Minus, op.Negate, op.Inc}, []int{9, 5}, []int{-3}, api.OK},
		// One that throws first, in the middle, and last: nothing behind it is done.
		{[]int{op.Plus, op.Drop}, []int{7}, []int{7}, api.Under}, {[]int{op.Dup, op.Slash, op.Dup}, []int{0}, []int{0, 0}, api.Zero}, {[]int{op.Inc, op.Fetch, op.Inc}, []int{0}, []int{1}, api.Host}, {[]int{op.Inc, -1, op.Inc}, []int{0}, []int{1}, api.Host}, {[]int{op.Inc, op.Inc, greatest}, []int{0}, []int{2}, api.Host},
		{[]int{op.Drop, op.Drop, op.Depth}, []int{7}, nil, api.Under}, {[]int{op.Swap, op.SlashMod, op.Inc}, []int{-1, least}, []int{least, -1}, api.Range}, {[]int{op.Inc, op.Pick, op.Drop}, []int{5, 0}, []int{5, 1}, api.Under},
		// Two that throw: the first one's.
		{[]int{op.Dup, op.Slash, op.Emit}, []int{0}, []int{0, 0}, api.Zero}, {[]int{op.Dup, op.Emit, op.Slash}, []int{0}, []int{0, 0}, api.Host},
		{[]int{op.Dup, op.Dup, op.Drop}, stack(63), append(slices.Clone(stack(63)), 1000+13*62), api.Over}, {[]int{op.Drop}, stack(65), stack(65), api.Over},
	} {
		if got := told(All(x.l, x.d)); got != told(x.want, x.e) {
			t.Errorf("All(%v, %v) = %s, not %v, %d", x.l, x.d, got, x.want, x.e)
		}
	}
}

func TestAllIsDoOfEach(t *testing.T) {
	// A number that is as good as any, from a short rule, so that rows are of all operations.
	next := 1
	for range 3000 {
		var l []int
		d := []int{3, -7, 0, greatest, 2}
		now, e := d, api.OK
		for range 12 {
			next = (next*1103515245 + 12345) & (1<<31 - 1)
			o := first - 1 + next>>8%(last-first+3)
			l = append(l, o)
			if e == api.OK {
				now, e = Do(o, now)
			}
			if got := told(All(l, d)); got != told(now, e) {
				t.Fatalf("All(%v, %v) = %s, not %v, %d", l, d, got, now, e)
			}
		}
	}
}

// P1 and R3

func TestNoCallPanicsOrChangesWhatIsHandedIn(t *testing.T) {
	numbers := others()
	for o := range op.Count {
		numbers = append(numbers, o)
	}
	for _, o := range numbers {
		for _, size := range []int{0, 1, 2, 3, 4, 5, 60, 62, 63, 64, 65} {
			for _, x := range []int{0, 1, 2, -1, 61, 64, least, greatest} {
				d := stack(size)
				if size > 0 {
					d[size-1] = x
				}
				l := append(slices.Grow([]int(nil), spare), o, o)
				were := slices.Clone(d[:cap(d)])
				Do(o, d)
				All(l, d)
				if !slices.Equal(d[:cap(d)], were) || !slices.Equal(l, []int{o, o}) {
					t.Fatalf("%d changed %v to %v, or %v", o, were, d[:cap(d)], l)
				}
			}
		}
	}
}

func TestWhatIsAnsweredStaysAsItIs(t *testing.T) {
	for a := first; a <= last; a++ {
		d := on(5, 2, 1, 1)
		one, _ := Do(a, d)
		two, _ := Do(a, d)
		were := slices.Clone(one[:cap(one)])
		for b := first; b <= last; b++ {
			Do(b, one)
			Do(b, two)
			Do(b, d)
		}
		if !slices.Equal(one[:cap(one)], were) {
			t.Errorf("what %s answered, %v, is %v now", op.Name(a), were, one[:cap(one)])
		}
	}
}

func TestTwoOperationsOnOneStack(t *testing.T) {
	d := on(2, 5)
	a, _ := Do(op.Dup, d)
	b, _ := Do(op.Depth, d)
	c, _ := Do(op.ToD, d)
	left, _ := Do(op.Drop, d)
	e, _ := Do(op.Depth, left)
	if got, want := fmt.Sprint(d, a, b, c, left, e), "[1000 1013 5] [1000 1013 5 5] [1000 1013 5 3] [1000 1013 5 0] [1000 1013] [1000 1013 2]"; got != want {
		t.Errorf("%s, not %s", got, want)
	}
}

func TestGreatLists(t *testing.T) {
	d := make([]int, 1<<20)
	for o := range op.Count {
		got, e := Do(o, d)
		want := api.Host
		if o >= first && o <= last {
			want = api.Over
		}
		if e != want || len(got) != len(d) {
			t.Errorf("%s of a great stack: %d cells, %d", op.Name(o), len(got), e)
		}
	}
	l := slices.Repeat([]int{op.Inc}, 1<<18)
	if got := told(All(l, []int{0})); got != told([]int{1 << 18}, api.OK) {
		t.Error(got)
	}
	if got, e := All(slices.Repeat([]int{op.Dup}, 1<<18), []int{0}); e != api.Over || len(got) != 64 {
		t.Error(len(got), e)
	}
}
