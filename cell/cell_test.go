package cell

import (
	"math"
	"math/big"
	"testing"

	"tenterhook/api"
)

// edges are cells at which something turns: 0, the signs, the ends, powers of two, and multiples of CellSize.
func edges() []int {
	out := []int{0, math.MinInt, math.MinInt + 1, math.MinInt + 2, math.MaxInt, math.MaxInt - 1, 10, -10, 100, -100}
	for _, n := range []int{1, 2, 3, 5, 7, 8, 9, 15, 16, 17, 62, 63, 64, 65, 1 << 31, 1 << 32, 1<<32 + 1, 1 << 62, 1<<62 - 1, math.MaxInt - 7, math.MaxInt - 8, 6148914691236517205} {
		out = append(out, n, -n)
	}
	return out
}

func round64() *big.Int { return new(big.Int).Lsh(big.NewInt(1), 64) }

// unsigned is a cell without a sign, as the document says it.
func unsigned(n int) *big.Int {
	b := big.NewInt(int64(n))
	if n < 0 {
		b.Add(b, round64())
	}
	return b
}

// gone is a whole number, gone round to a cell.
func gone(b *big.Int) int {
	m := new(big.Int).Mod(b, round64())
	if m.Bit(63) == 1 {
		m.Sub(m, round64())
	}
	return int(m.Int64())
}

// P1.1

func TestFlag(t *testing.T) {
	if got := Flag(true); got != -1 {
		t.Error("true:", got)
	}
	if got := Flag(false); got != 0 {
		t.Error("false:", got)
	}
}

func TestUlt(t *testing.T) {
	for _, x := range []struct {
		a, b int
		want bool
	}{
		{0, 1, true}, {1, 0, false}, {0, 0, false}, {7, 7, false}, {-1, -1, false},
		{0, -1, true}, {-1, 0, false}, {-2, -1, true}, {-1, -2, false},
		{math.MaxInt, math.MinInt, true}, {math.MinInt, math.MaxInt, false},
		{math.MinInt, -1, true}, {0, math.MinInt, true},
	} {
		if got := Ult(x.a, x.b); got != x.want {
			t.Errorf("Ult(%d, %d) = %v", x.a, x.b, got)
		}
	}
}

func TestUltIsOfNumbersWithoutSigns(t *testing.T) {
	for _, a := range edges() {
		for _, b := range edges() {
			if got, want := Ult(a, b), unsigned(a).Cmp(unsigned(b)) < 0; got != want {
				t.Errorf("Ult(%d, %d) = %v", a, b, got)
			}
		}
	}
}

func TestWithin(t *testing.T) {
	for _, x := range []struct {
		n, lo, hi int
		want      bool
	}{
		{3, 1, 5, true}, {1, 1, 5, true}, {5, 1, 5, false}, {0, 1, 5, false}, {6, 1, 5, false},
		{0, -2, 2, true}, {-2, -2, 2, true}, {2, -2, 2, false}, {-3, -2, 2, false},
		{3, 5, 1, false}, {5, 5, 1, true}, {0, 5, 1, true}, {1, 5, 1, false}, {-9, 5, 1, true},
		{4, 4, 4, false}, {0, 4, 4, false}, {-1, 4, 4, false},
		{math.MaxInt, math.MaxInt, math.MinInt, true}, {math.MinInt, math.MaxInt, math.MinInt, false},
		{math.MinInt, math.MinInt, math.MaxInt, true}, {math.MaxInt, math.MinInt, math.MaxInt, false},
		{math.MinInt, math.MaxInt, math.MinInt + 1, true}, {0, math.MinInt, math.MaxInt, true},
	} {
		if got := Within(x.n, x.lo, x.hi); got != x.want {
			t.Errorf("Within(%d, %d, %d) = %v", x.n, x.lo, x.hi, got)
		}
	}
}

// apart is how far a lies behind b, going round, without a sign.
func apart(a, b int) *big.Int {
	d := new(big.Int).Sub(big.NewInt(int64(a)), big.NewInt(int64(b)))
	return d.Mod(d, round64())
}

func TestWithinGoesRound(t *testing.T) {
	for _, n := range edges() {
		for _, lo := range edges() {
			for _, hi := range edges() {
				if got, want := Within(n, lo, hi), apart(n, lo).Cmp(apart(hi, lo)) < 0; got != want {
					t.Errorf("Within(%d, %d, %d) = %v", n, lo, hi, got)
				}
			}
		}
	}
}

// P1.2

func TestShifts(t *testing.T) {
	for _, x := range []struct{ a, n, left, right int }{
		{1, 0, 1, 1}, {-1, 0, -1, -1}, {math.MinInt, 0, math.MinInt, math.MinInt},
		{1, 1, 2, 0}, {5, 2, 20, 1}, {-1, 1, -2, math.MaxInt}, {-8, 1, -16, math.MaxInt - 3},
		{1, 62, 1 << 62, 0}, {1, 63, math.MinInt, 0}, {-1, 63, math.MinInt, 1}, {2, 63, 0, 0},
		{math.MinInt, 63, 0, 1}, {math.MinInt, 1, 0, 1 << 62}, {math.MaxInt, 1, -2, math.MaxInt >> 1},
	} {
		if got := Shl(x.a, x.n); got != x.left {
			t.Errorf("Shl(%d, %d) = %d", x.a, x.n, got)
		}
		if got := Shr(x.a, x.n); got != x.right {
			t.Errorf("Shr(%d, %d) = %d", x.a, x.n, got)
		}
	}
}

func TestShiftsByWrongNumbersAreNought(t *testing.T) {
	for _, a := range edges() {
		for _, n := range []int{-1, -2, -63, -64, -65, math.MinInt, math.MinInt + 1, 64, 65, 127, 128, 256, 1 << 32, 1<<32 + 1, math.MaxInt} {
			if got := Shl(a, n); got != 0 {
				t.Errorf("Shl(%d, %d) = %d", a, n, got)
			}
			if got := Shr(a, n); got != 0 {
				t.Errorf("Shr(%d, %d) = %d", a, n, got)
			}
		}
	}
}

func TestShiftsAreOfNumbersWithoutSigns(t *testing.T) {
	for _, a := range edges() {
		for n := range 64 {
			left := gone(new(big.Int).Lsh(unsigned(a), uint(n)))
			if got := Shl(a, n); got != left {
				t.Errorf("Shl(%d, %d) = %d, not %d", a, n, got, left)
			}
			right := gone(new(big.Int).Rsh(unsigned(a), uint(n)))
			if got := Shr(a, n); got != right {
				t.Errorf("Shr(%d, %d) = %d, not %d", a, n, got, right)
			}
		}
	}
}

func TestAligned(t *testing.T) {
	for _, x := range []struct{ n, want int }{
		{0, 0}, {1, 8}, {7, 8}, {8, 8}, {9, 16}, {15, 16}, {16, 16}, {5119, 5120},
		{-1, 0}, {-7, 0}, {-8, -8}, {-9, -8}, {-15, -8}, {-16, -16},
		{math.MaxInt - 7, math.MaxInt - 7}, {math.MaxInt - 8, math.MaxInt - 7}, {math.MaxInt - 6, math.MinInt}, {math.MaxInt, math.MinInt},
		{math.MinInt, math.MinInt}, {math.MinInt + 1, math.MinInt + 8},
	} {
		if got := Aligned(x.n); got != x.want {
			t.Errorf("Aligned(%d) = %d", x.n, got)
		}
	}
}

func TestAlignedIsTheLeastMultiple(t *testing.T) {
	for _, n := range edges() {
		want := big.NewInt(int64(n))
		for new(big.Int).Mod(want, big.NewInt(api.CellSize)).Sign() != 0 {
			want.Add(want, big.NewInt(1))
		}
		if got := Aligned(n); got != gone(want) {
			t.Errorf("Aligned(%d) = %d, not %d", n, got, gone(want))
		}
	}
}

// P1.3

// answer is all that a division tells.
type answer struct {
	q, r int
	e    api.Throw
}

func floor(a, b int) answer {
	q, r, e := Floor(a, b)
	return answer{q, r, e}
}

func symm(a, b int) answer {
	q, r, e := Symm(a, b)
	return answer{q, r, e}
}

func TestDivisions(t *testing.T) {
	for _, x := range []struct{ a, b, fq, fr, sq, sr int }{
		{7, 2, 3, 1, 3, 1}, {-7, 2, -4, 1, -3, -1}, {7, -2, -4, -1, -3, 1}, {-7, -2, 3, -1, 3, -1},
		{6, 2, 3, 0, 3, 0}, {-6, 2, -3, 0, -3, 0}, {6, -2, -3, 0, -3, 0}, {-6, -2, 3, 0, 3, 0},
		{1, 3, 0, 1, 0, 1}, {-1, 3, -1, 2, 0, -1}, {1, -3, -1, -2, 0, 1}, {-1, -3, 0, -1, 0, -1},
		{0, 5, 0, 0, 0, 0}, {0, -5, 0, 0, 0, 0}, {5, 1, 5, 0, 5, 0}, {5, -1, -5, 0, -5, 0},
		{math.MinInt, 1, math.MinInt, 0, math.MinInt, 0},
		{math.MinInt, 2, -1 << 62, 0, -1 << 62, 0}, {math.MinInt, -2, 1 << 62, 0, 1 << 62, 0},
		{math.MinInt, math.MinInt, 1, 0, 1, 0}, {math.MaxInt, math.MaxInt, 1, 0, 1, 0},
		{math.MinInt + 1, -1, math.MaxInt, 0, math.MaxInt, 0}, {math.MaxInt, -1, math.MinInt + 1, 0, math.MinInt + 1, 0},
		{math.MinInt, math.MaxInt, -2, math.MaxInt - 1, -1, -1},
		{math.MaxInt, math.MinInt, -1, -1, 0, math.MaxInt},
		{-1, math.MinInt, 0, -1, 0, -1}, {1, math.MinInt, -1, math.MinInt + 1, 0, 1},
		{-1, math.MaxInt, -1, math.MaxInt - 1, 0, -1},
	} {
		if got := floor(x.a, x.b); got != (answer{x.fq, x.fr, api.OK}) {
			t.Errorf("Floor(%d, %d) = %d", x.a, x.b, got)
		}
		if got := symm(x.a, x.b); got != (answer{x.sq, x.sr, api.OK}) {
			t.Errorf("Symm(%d, %d) = %d", x.a, x.b, got)
		}
	}
}

func TestDivisionsByNought(t *testing.T) {
	for _, a := range edges() {
		if got := floor(a, 0); got != (answer{0, 0, api.Zero}) {
			t.Errorf("Floor(%d, 0) = %d", a, got)
		}
		if got := symm(a, 0); got != (answer{0, 0, api.Zero}) {
			t.Errorf("Symm(%d, 0) = %d", a, got)
		}
	}
}

func TestDivisionsOutOfRange(t *testing.T) {
	if got := floor(math.MinInt, -1); got != (answer{0, 0, api.Range}) {
		t.Errorf("Floor: %d", got)
	}
	if got := symm(math.MinInt, -1); got != (answer{0, 0, api.Range}) {
		t.Errorf("Symm: %d", got)
	}
}

// divisible: is there a quotient that is a cell?
func divisible(a, b int) bool { return b != 0 && !(a == math.MinInt && b == -1) }

// floored is the quotient rounded down: that towards 0, and one less if it is above the true one.
func floored(a, b int) answer {
	x, y := big.NewInt(int64(a)), big.NewInt(int64(b))
	q, r := new(big.Int).QuoRem(x, y, new(big.Int))
	if r.Sign()*y.Sign() < 0 {
		q.Sub(q, big.NewInt(1))
		r.Add(r, y)
	}
	return answer{gone(q), gone(r), api.OK}
}

func TestDivisionsAreThoseOfWholeNumbers(t *testing.T) {
	for _, a := range edges() {
		for _, b := range edges() {
			if !divisible(a, b) {
				continue
			}
			if got, want := floor(a, b), floored(a, b); got != want {
				t.Errorf("Floor(%d, %d) = %d, not %d", a, b, got, want)
			}
			q, r := new(big.Int).QuoRem(big.NewInt(int64(a)), big.NewInt(int64(b)), new(big.Int))
			if got, want := symm(a, b), (answer{gone(q), gone(r), api.OK}); got != want {
				t.Errorf("Symm(%d, %d) = %d, not %d", a, b, got, want)
			}
		}
	}
}

// P1.4

// adds: are the quotient times b, and what is left, a, with nothing gone round, and less left than b is great?
func adds(a, b int, x answer) bool {
	left, by := big.NewInt(int64(x.r)), big.NewInt(int64(b))
	sum := new(big.Int).Mul(big.NewInt(int64(x.q)), by)
	sum.Add(sum, left)
	return x.e == api.OK && sum.Cmp(big.NewInt(int64(a))) == 0 && left.CmpAbs(by) < 0
}

func TestQuotientTimesDivisorAndRest(t *testing.T) {
	for _, a := range edges() {
		for _, b := range edges() {
			if !divisible(a, b) {
				continue
			}
			if got := floor(a, b); !adds(a, b, got) || got.r != 0 && (got.r < 0) != (b < 0) {
				t.Errorf("Floor(%d, %d) = %d", a, b, got)
			}
			if got := symm(a, b); !adds(a, b, got) || got.r != 0 && (got.r < 0) != (a < 0) {
				t.Errorf("Symm(%d, %d) = %d", a, b, got)
			}
		}
	}
}

// P1

func TestNoCallPanics(t *testing.T) {
	for _, a := range edges() {
		Aligned(a)
		for _, b := range edges() {
			Ult(a, b)
			Shl(a, b)
			Shr(a, b)
			Floor(a, b)
			Symm(a, b)
			for _, c := range edges() {
				Within(a, b, c)
			}
		}
	}
}
