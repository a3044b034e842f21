package dbl

import (
	"math"
	"math/big"
	"testing"

	"tenterhook/api"
)

const (
	least = math.MinInt
	most  = math.MaxInt
)

// cells are cells at which something turns: 0, the signs, the ends, powers of two, and some in between.
func cells() []int {
	out := []int{0, least, least + 1, least + 2}
	for _, n := range []int{1, 2, 3, 7, 10, 1<<31 - 1, 1 << 32, 1<<32 + 1, 1<<62 - 1, 1 << 62, 1<<62 + 1, 6148914691236517205, 4865804016353280000, most - 1, most} {
		out = append(out, n, -n)
	}
	return out
}

// doubles are all doubles of two of these cells, and so -2^127, 2^127 - 1, and those beside 2^64 and -2^64.
func doubles() []api.Dbl {
	var out []api.Dbl
	for _, hi := range cells() {
		for _, lo := range cells() {
			out = append(out, d(lo, hi))
		}
	}
	return out
}

// pairs are every one of these doubles with every fifth one, which are of all high and low cells.
func pairs() [][2]api.Dbl {
	var out [][2]api.Dbl
	all := doubles()
	for _, a := range all {
		for k := 0; k < len(all); k += 5 {
			out = append(out, [2]api.Dbl{a, all[k]})
		}
		out = append(out, [2]api.Dbl{a, a})
	}
	return out
}

func d(lo, hi int) api.Dbl { return api.Dbl{Lo: lo, Hi: hi} }

func power(n uint) *big.Int { return new(big.Int).Lsh(big.NewInt(1), n) }

// signedCell, unsignedCell, signedDbl, unsignedDbl are the numbers of cells and doubles, as the document says them.

func signedCell(n int) *big.Int { return big.NewInt(int64(n)) }

func unsignedCell(n int) *big.Int {
	b := signedCell(n)
	if n < 0 {
		b.Add(b, power(64))
	}
	return b
}

func signedDbl(a api.Dbl) *big.Int {
	b := new(big.Int).Mul(signedCell(a.Hi), power(64))
	return b.Add(b, unsignedCell(a.Lo))
}

func unsignedDbl(a api.Dbl) *big.Int {
	b := signedDbl(a)
	if b.Sign() < 0 {
		b.Add(b, power(128))
	}
	return b
}

// round is a whole number, gone round to one of so many digits of two, with a sign.
func round(b *big.Int, digits uint) *big.Int {
	m := new(big.Int).Mod(b, power(digits))
	if m.Bit(int(digits-1)) == 1 {
		m.Sub(m, power(digits))
	}
	return m
}

func toCell(b *big.Int) int { return int(round(b, 64).Int64()) }

func toDbl(b *big.Int) api.Dbl { return d(toCell(b), toCell(new(big.Int).Rsh(b, 64))) }

// P2.1

func TestOf(t *testing.T) {
	for _, x := range []struct {
		n    int
		want api.Dbl
	}{
		{0, d(0, 0)}, {1, d(1, 0)}, {5, d(5, 0)}, {-1, d(-1, -1)}, {-5, d(-5, -1)},
		{most, d(most, 0)}, {least, d(least, -1)},
	} {
		if got := Of(x.n); got != x.want {
			t.Errorf("Of(%d) = %d", x.n, got)
		}
	}
	for _, n := range cells() {
		if got := signedDbl(Of(n)); got.Cmp(signedCell(n)) != 0 {
			t.Errorf("Of(%d) is %d", n, got)
		}
	}
}

func TestAdd(t *testing.T) {
	for _, x := range []struct{ a, b, want api.Dbl }{
		{d(0, 0), d(0, 0), d(0, 0)}, {d(2, 3), d(4, 5), d(6, 8)}, {d(5, 0), d(-7, -1), d(-2, -1)}, {d(7, 0), d(-5, -1), d(2, 0)},
		// Lo has no sign: it goes over at 2^64, not at 2^63.
		{d(most, 0), d(1, 0), d(least, 0)}, {d(-1, 0), d(1, 0), d(0, 1)}, {d(1, 0), d(-1, 0), d(0, 1)},
		{d(least, 0), d(least, 0), d(0, 1)}, {d(-1, 0), d(-1, 0), d(-2, 1)}, {d(-1, 0), d(0, 0), d(-1, 0)},
		{d(-1, -1), d(1, 0), d(0, 0)}, {d(0, 0), d(-1, -1), d(-1, -1)}, {d(0, 1), d(-1, -1), d(-1, 0)},
		// Round at 2^127, both ways.
		{d(-1, most), d(1, 0), d(0, least)}, {d(0, least), d(-1, -1), d(-1, most)},
		{d(0, most), d(0, 1), d(0, least)}, {d(0, least), d(0, least), d(0, 0)}, {d(-1, most), d(-1, most), d(-2, -1)},
	} {
		if got := Add(x.a, x.b); got != x.want {
			t.Errorf("Add(%d, %d) = %d", x.a, x.b, got)
		}
	}
}

func TestAddIsThatOfWholeNumbers(t *testing.T) {
	for _, x := range pairs() {
		sum := new(big.Int).Add(signedDbl(x[0]), signedDbl(x[1]))
		if got, want := Add(x[0], x[1]), toDbl(sum); got != want {
			t.Fatalf("Add(%d, %d) = %d, not %d", x[0], x[1], got, want)
		}
	}
}

func TestNeg(t *testing.T) {
	for _, x := range []struct{ a, want api.Dbl }{
		{d(0, 0), d(0, 0)}, {d(1, 0), d(-1, -1)}, {d(-1, -1), d(1, 0)}, {d(-1, 0), d(1, -1)}, {d(1, -1), d(-1, 0)},
		{d(0, 1), d(0, -1)}, {d(0, -1), d(0, 1)}, {d(5, 7), d(-5, -8)}, {d(least, 0), d(least, -1)},
		{d(-1, most), d(1, least)}, {d(1, least), d(-1, most)},
		{d(0, least), d(0, least)},
	} {
		if got := Neg(x.a); got != x.want {
			t.Errorf("Neg(%d) = %d", x.a, got)
		}
	}
	for _, a := range doubles() {
		if got, want := Neg(a), toDbl(new(big.Int).Neg(signedDbl(a))); got != want {
			t.Errorf("Neg(%d) = %d, not %d", a, got, want)
		}
	}
}

func TestCmp(t *testing.T) {
	for _, x := range []struct {
		a, b api.Dbl
		want int
	}{
		{d(0, 0), d(0, 0), 0}, {d(5, 5), d(5, 5), 0}, {d(-1, -1), d(-1, -1), 0}, {d(0, 0), d(1, 0), -1}, {d(1, 0), d(0, 0), 1},
		// Lo without a sign, Hi with it.
		{d(-1, 0), d(1, 0), 1}, {d(most, 0), d(least, 0), -1}, {d(-1, -1), d(0, -1), 1}, {d(-1, -1), d(0, 0), -1},
		{d(0, -1), d(0, 0), -1}, {d(-1, 0), d(0, 1), -1}, {d(0, 1), d(-1, 0), 1}, {d(0, most), d(-1, least), 1}, {d(-1, least), d(0, most), -1},
		{d(0, least), d(1, least), -1}, {d(-1, most), d(0, least), 1},
	} {
		if got := Cmp(x.a, x.b); got != x.want {
			t.Errorf("Cmp(%d, %d) = %d", x.a, x.b, got)
		}
	}
}

func TestCmpIsThatOfWholeNumbers(t *testing.T) {
	for _, x := range pairs() {
		if got, want := Cmp(x[0], x[1]), signedDbl(x[0]).Cmp(signedDbl(x[1])); got != want {
			t.Fatalf("Cmp(%d, %d) = %d, not %d", x[0], x[1], got, want)
		}
	}
}

func TestProducts(t *testing.T) {
	for _, x := range []struct {
		a, b           int
		without, signs api.Dbl
	}{
		{1 << 32, 1 << 32, d(0, 1), d(0, 1)}, {1 << 32, 1 << 33, d(0, 2), d(0, 2)},
		{0, 0, d(0, 0), d(0, 0)}, {0, -1, d(0, 0), d(0, 0)}, {3, 5, d(15, 0), d(15, 0)},
		{-3, 5, d(-15, 4), d(-15, -1)}, {3, -5, d(-15, 2), d(-15, -1)}, {-3, -5, d(15, -8), d(15, 0)},
		{1, -1, d(-1, 0), d(-1, -1)}, {-1, -1, d(1, -2), d(1, 0)},
		{most, most, d(1, 1<<62-1), d(1, 1<<62-1)}, {most, 2, d(-2, 0), d(-2, 0)},
		{least, least, d(0, 1<<62), d(0, 1<<62)}, {least, 1, d(least, 0), d(least, -1)}, {least, 2, d(0, 1), d(0, -1)},
		{least, -1, d(least, most), d(least, 0)}, {-1, least, d(least, most), d(least, 0)},
		{least, most, d(least, 1<<62-1), d(least, -1<<62)},
	} {
		if got := UMul(x.a, x.b); got != x.without {
			t.Errorf("UMul(%d, %d) = %d", x.a, x.b, got)
		}
		if got := Mul(x.a, x.b); got != x.signs {
			t.Errorf("Mul(%d, %d) = %d", x.a, x.b, got)
		}
	}
}

func TestProductsAreThoseOfWholeNumbers(t *testing.T) {
	for _, a := range cells() {
		for _, b := range cells() {
			without := new(big.Int).Mul(unsignedCell(a), unsignedCell(b))
			if got := unsignedDbl(UMul(a, b)); got.Cmp(without) != 0 {
				t.Errorf("UMul(%d, %d) is %d, not %d", a, b, got, without)
			}
			signs := new(big.Int).Mul(signedCell(a), signedCell(b))
			if got := signedDbl(Mul(a, b)); got.Cmp(signs) != 0 {
				t.Errorf("Mul(%d, %d) is %d, not %d", a, b, got, signs)
			}
		}
	}
}

// answer is all that a division tells: what is left, and the quotient.
type answer struct {
	left, q int
	e       api.Throw
}

func umod(a api.Dbl, u int) answer {
	left, q, e := UMod(a, u)
	return answer{left, q, e}
}

func symm(a api.Dbl, n int) answer {
	left, q, e := Symm(a, n)
	return answer{left, q, e}
}

func floor(a api.Dbl, n int) answer {
	left, q, e := Floor(a, n)
	return answer{left, q, e}
}

func scale(a, b, c int) answer {
	left, q, e := Scale(a, b, c)
	return answer{left, q, e}
}

var (
	zero   = answer{0, 0, api.Zero}
	beyond = answer{0, 0, api.Range}
)

// umodOf, symmOf and floorOf are what the document asks, of whole numbers.

func umodOf(a api.Dbl, u int) answer {
	if u == 0 {
		return zero
	}
	q, left := new(big.Int).QuoRem(unsignedDbl(a), unsignedCell(u), new(big.Int))
	if q.BitLen() > 64 {
		return beyond
	}
	return answer{toCell(left), toCell(q), api.OK}
}

func symmOf(a api.Dbl, n int) answer {
	if n == 0 {
		return zero
	}
	return told(new(big.Int).QuoRem(signedDbl(a), signedCell(n), new(big.Int)))
}

func floorOf(a api.Dbl, n int) answer {
	if n == 0 {
		return zero
	}
	by := signedCell(n)
	q, left := new(big.Int).QuoRem(signedDbl(a), by, new(big.Int))
	if left.Sign()*by.Sign() < 0 {
		q.Sub(q, big.NewInt(1))
		left.Add(left, by)
	}
	return told(q, left)
}

func told(q, left *big.Int) answer {
	if !q.IsInt64() {
		return beyond
	}
	return answer{toCell(left), toCell(q), api.OK}
}

// division is a double, and by what it is divided.
type division struct {
	d api.Dbl
	n int
}

// divisions are doubles by cells, of all kinds, and those whose quotients lie beside the ends of what a cell can hold, with signs and without.
func divisions() []division {
	var out []division
	for _, a := range doubles() {
		for _, n := range cells() {
			out = append(out, division{a, n})
		}
	}
	ends := []*big.Int{new(big.Int), power(63), power(64), new(big.Int).Neg(power(63))}
	for _, n := range cells() {
		for _, by := range []*big.Int{signedCell(n), unsignedCell(n)} {
			for _, end := range ends {
				near := new(big.Int).Mul(end, by)
				for _, step := range []*big.Int{new(big.Int), by, new(big.Int).Neg(by)} {
					for _, more := range []int64{-1, 0, 1} {
						at := new(big.Int).Add(near, step)
						out = append(out, division{toDbl(at.Add(at, big.NewInt(more))), n})
					}
				}
			}
		}
	}
	return out
}

// P2.2

func TestUMod(t *testing.T) {
	for _, x := range []struct {
		d    api.Dbl
		u    int
		want answer
	}{
		{d(7, 0), 2, answer{1, 3, api.OK}}, {d(6, 0), 2, answer{0, 3, api.OK}}, {d(0, 0), 5, answer{0, 0, api.OK}}, {d(4, 0), 5, answer{4, 0, api.OK}},
		{d(-1, 0), 1, answer{0, -1, api.OK}}, {d(-1, 0), -1, answer{0, 1, api.OK}}, {d(-2, 0), -1, answer{-2, 0, api.OK}},
		{d(-7, 0), 2, answer{1, most - 3, api.OK}}, {d(1, 1), 2, answer{1, least, api.OK}}, {d(0, 1), -1, answer{1, 1, api.OK}},
		{d(0, 1), least, answer{0, 2, api.OK}}, {d(-1, most), least, answer{most, -1, api.OK}},
		// Just 64 digits of two, and just more.
		{d(-1, 1), 2, answer{1, -1, api.OK}}, {d(0, 2), 2, beyond}, {d(0, 1), 1, beyond},
		{d(-1, -2), -1, answer{-2, -1, api.OK}}, {d(0, -1), -1, beyond}, {d(-1, -1), -1, beyond},
		{d(-1, most-1), most, answer{most - 1, -1, api.OK}}, {d(0, most), most, beyond},
		{d(0, least), least, beyond}, {d(-1, -1), 1, beyond}, {d(-7, -1), 2, beyond},
		// Zero goes ahead of Range.
		{d(0, 0), 0, zero}, {d(7, 0), 0, zero}, {d(-1, -1), 0, zero}, {d(0, least), 0, zero},
	} {
		if got := umod(x.d, x.u); got != x.want {
			t.Errorf("UMod(%d, %d) = %d, not %d", x.d, x.u, got, x.want)
		}
	}
}

func TestUModIsThatOfWholeNumbers(t *testing.T) {
	for _, x := range divisions() {
		if got, want := umod(x.d, x.n), umodOf(x.d, x.n); got != want {
			t.Fatalf("UMod(%d, %d) = %d, not %d", x.d, x.n, got, want)
		}
	}
}

// P2.3

func TestSymmAndFloor(t *testing.T) {
	for _, x := range []struct {
		d           api.Dbl
		n           int
		symm, floor answer
	}{
		{Of(7), 2, answer{1, 3, api.OK}, answer{1, 3, api.OK}},
		{Of(-7), 2, answer{-1, -3, api.OK}, answer{1, -4, api.OK}},
		{Of(7), -2, answer{1, -3, api.OK}, answer{-1, -4, api.OK}},
		{Of(-7), -2, answer{-1, 3, api.OK}, answer{-1, 3, api.OK}},
		{Of(6), 2, answer{0, 3, api.OK}, answer{0, 3, api.OK}},
		{Of(-6), 2, answer{0, -3, api.OK}, answer{0, -3, api.OK}},
		{Of(6), -2, answer{0, -3, api.OK}, answer{0, -3, api.OK}},
		{Of(-6), -2, answer{0, 3, api.OK}, answer{0, 3, api.OK}},
		{Of(1), 3, answer{1, 0, api.OK}, answer{1, 0, api.OK}},
		{Of(-1), 3, answer{-1, 0, api.OK}, answer{2, -1, api.OK}},
		{Of(1), -3, answer{1, 0, api.OK}, answer{-2, -1, api.OK}},
		{Of(-1), -3, answer{-1, 0, api.OK}, answer{-1, 0, api.OK}},
		{Of(0), 5, answer{0, 0, api.OK}, answer{0, 0, api.OK}},
		{Of(0), -5, answer{0, 0, api.OK}, answer{0, 0, api.OK}},
		{d(-1, 0), 4, answer{3, 1<<62 - 1, api.OK}, answer{3, 1<<62 - 1, api.OK}},
		{Of(least), least, answer{0, 1, api.OK}, answer{0, 1, api.OK}},
		{Of(most), least, answer{most, 0, api.OK}, answer{-1, -1, api.OK}},
		{Of(least), most, answer{-1, -1, api.OK}, answer{most - 1, -2, api.OK}},
		{Of(7), 0, zero, zero}, {Of(0), 0, zero, zero}, {Of(-7), 0, zero, zero}, {d(0, least), 0, zero, zero}, {d(-1, most), 0, zero, zero},
	} {
		if got := symm(x.d, x.n); got != x.symm {
			t.Errorf("Symm(%d, %d) = %d, not %d", x.d, x.n, got, x.symm)
		}
		if got := floor(x.d, x.n); got != x.floor {
			t.Errorf("Floor(%d, %d) = %d, not %d", x.d, x.n, got, x.floor)
		}
	}
}

func TestSymmAndFloorAtTheEndsOfTheirRange(t *testing.T) {
	for _, x := range []struct {
		d           api.Dbl
		n           int
		symm, floor answer
	}{
		// Just 2^63 - 1, and just more, by numbers of both signs.
		{Of(most), 1, answer{0, most, api.OK}, answer{0, most, api.OK}},
		{d(least, 0), 1, beyond, beyond},
		{d(-1, 0), 2, answer{1, most, api.OK}, answer{1, most, api.OK}},
		{d(0, 1), 2, beyond, beyond},
		{d(1, -1), -2, answer{-1, most, api.OK}, answer{-1, most, api.OK}},
		{d(0, -1), -2, beyond, beyond},
		{Of(least + 1), -1, answer{0, most, api.OK}, answer{0, most, api.OK}},
		{Of(least), -1, beyond, beyond},
		// Just -2^63, and just less: rounded down it is less ahead of rounded towards 0.
		{Of(least), 1, answer{0, least, api.OK}, answer{0, least, api.OK}},
		{d(most, -1), 1, beyond, beyond},
		{d(0, -1), 2, answer{0, least, api.OK}, answer{0, least, api.OK}},
		{d(-1, -2), 2, answer{-1, least, api.OK}, beyond},
		{d(-2, -2), 2, beyond, beyond},
		{d(0, 1), -2, answer{0, least, api.OK}, answer{0, least, api.OK}},
		{d(1, 1), -2, answer{1, least, api.OK}, beyond},
		{d(2, 1), -2, beyond, beyond},
		{d(least, 0), -1, answer{0, least, api.OK}, answer{0, least, api.OK}},
		{d(least+1, 0), -1, beyond, beyond},
		// By -2^63, and of -2^127, whose other signs go round.
		{d(0, 1<<62), least, answer{0, least, api.OK}, answer{0, least, api.OK}},
		{d(0, -1<<62), least, beyond, beyond},
		{d(1, -1<<62), least, answer{least + 1, most, api.OK}, answer{least + 1, most, api.OK}},
		{d(0, least), 1, beyond, beyond}, {d(0, least), -1, beyond, beyond},
		{d(0, least), least, beyond, beyond}, {d(0, least), most, beyond, beyond}, {d(-1, most), most, beyond, beyond},
		// More than 64 digits of two, of all four signs.
		{d(0, 5), 1, beyond, beyond}, {d(0, -5), 1, beyond, beyond}, {d(0, 5), -1, beyond, beyond}, {d(0, -5), -1, beyond, beyond},
	} {
		if got := symm(x.d, x.n); got != x.symm {
			t.Errorf("Symm(%d, %d) = %d, not %d", x.d, x.n, got, x.symm)
		}
		if got := floor(x.d, x.n); got != x.floor {
			t.Errorf("Floor(%d, %d) = %d, not %d", x.d, x.n, got, x.floor)
		}
	}
}

func TestSymmAndFloorAreThoseOfWholeNumbers(t *testing.T) {
	for _, x := range divisions() {
		if got, want := symm(x.d, x.n), symmOf(x.d, x.n); got != want {
			t.Fatalf("Symm(%d, %d) = %d, not %d", x.d, x.n, got, want)
		}
		if got, want := floor(x.d, x.n), floorOf(x.d, x.n); got != want {
			t.Fatalf("Floor(%d, %d) = %d, not %d", x.d, x.n, got, want)
		}
	}
}

func TestScale(t *testing.T) {
	for _, x := range []struct {
		a, b, c int
		want    answer
	}{
		{7, 3, 4, answer{1, 5, api.OK}}, {-7, 3, 4, answer{3, -6, api.OK}}, {7, 3, -4, answer{-3, -6, api.OK}}, {-7, 3, -4, answer{-1, 5, api.OK}},
		{most, 10, 10, answer{0, most, api.OK}}, {least, 10, 10, answer{0, least, api.OK}}, {least, least, least, answer{0, least, api.OK}},
		{most, most, most, answer{0, most, api.OK}}, {0, 5, 3, answer{0, 0, api.OK}},
		{least, -1, 1, beyond}, {least, least, most, beyond}, {most, 2, 1, beyond}, {most, -2, 1, beyond},
		{1, 1, 0, zero}, {0, 0, 0, zero}, {least, least, 0, zero},
	} {
		if got := scale(x.a, x.b, x.c); got != x.want {
			t.Errorf("Scale(%d, %d, %d) = %d, not %d", x.a, x.b, x.c, got, x.want)
		}
	}
	for _, a := range cells() {
		for _, b := range cells() {
			product := toDbl(new(big.Int).Mul(signedCell(a), signedCell(b)))
			for _, c := range cells() {
				if got, want := scale(a, b, c), floorOf(product, c); got != want {
					t.Fatalf("Scale(%d, %d, %d) = %d, not %d", a, b, c, got, want)
				}
			}
		}
	}
}

// P2.4

// adds: are the quotient times n, and what is left, the whole, with nothing gone round, and less left than n is great?
func adds(whole, n, left, q *big.Int) bool {
	sum := new(big.Int).Mul(q, n)
	return sum.Add(sum, left).Cmp(whole) == 0 && left.CmpAbs(n) < 0
}

func TestQuotientTimesDivisorAndRest(t *testing.T) {
	told := 0
	for _, x := range divisions() {
		if got := umod(x.d, x.n); got.e == api.OK {
			told++
			if !adds(unsignedDbl(x.d), unsignedCell(x.n), unsignedCell(got.left), unsignedCell(got.q)) {
				t.Fatalf("UMod(%d, %d) = %d", x.d, x.n, got)
			}
		}
		if got := symm(x.d, x.n); got.e == api.OK {
			told++
			sign := got.left == 0 || (got.left < 0) == (x.d.Hi < 0)
			if !sign || !adds(signedDbl(x.d), signedCell(x.n), signedCell(got.left), signedCell(got.q)) {
				t.Fatalf("Symm(%d, %d) = %d", x.d, x.n, got)
			}
		}
		if got := floor(x.d, x.n); got.e == api.OK {
			told++
			sign := got.left == 0 || (got.left < 0) == (x.n < 0)
			if !sign || !adds(signedDbl(x.d), signedCell(x.n), signedCell(got.left), signedCell(got.q)) {
				t.Fatalf("Floor(%d, %d) = %d", x.d, x.n, got)
			}
		}
	}
	if told < 1000 {
		t.Error("too few quotients:", told)
	}
}

// The same, by the package's own calls: what they add up to is no other double either.
func TestProductAndSumLeadBack(t *testing.T) {
	for _, x := range divisions() {
		if left, q, e := UMod(x.d, x.n); e == api.OK && Add(UMul(q, x.n), d(left, 0)) != x.d {
			t.Fatalf("UMod(%d, %d) = %d, %d", x.d, x.n, left, q)
		}
		if left, q, e := Symm(x.d, x.n); e == api.OK && Add(Mul(q, x.n), Of(left)) != x.d {
			t.Fatalf("Symm(%d, %d) = %d, %d", x.d, x.n, left, q)
		}
		if left, q, e := Floor(x.d, x.n); e == api.OK && Add(Mul(q, x.n), Of(left)) != x.d {
			t.Fatalf("Floor(%d, %d) = %d, %d", x.d, x.n, left, q)
		}
	}
}

// P1

func TestNoCallPanics(t *testing.T) {
	for _, x := range divisions() {
		Of(x.n)
		Neg(x.d)
		Add(x.d, Of(x.n))
		Cmp(x.d, Of(x.n))
		UMul(x.d.Lo, x.n)
		Mul(x.d.Lo, x.n)
		UMod(x.d, x.n)
		Symm(x.d, x.n)
		Floor(x.d, x.n)
		Scale(x.d.Lo, x.d.Hi, x.n)
	}
}
