// Package cell is layer 1, cells: see shared/doc/01-cell.md.
package cell

import (
	"math"

	"tenterhook/api"
)

// which is one of two: the first one, if ok.
func which[T any](ok bool, first, second T) T {
	if ok {
		return first
	}
	return second
}

// Flag is -1, or 0.
func Flag(ok bool) int { return which(ok, -1, 0) }

// Ult: is one below another one, without signs?
func Ult(a, b int) bool { return uint64(a) < uint64(b) }

// Shl shifts left.
func Shl(a, n int) int { return int(uint64(a) << places(n)) }

// Shr shifts right: without a sign, so that 0 comes in and not the sign.
func Shr(a, n int) int { return int(uint64(a) >> places(n)) }

// places is n without a sign: a shift by less than 0 would panic, and without a sign that is a shift by more than 63, of which 0 comes as it should.
func places(n int) uint64 { return uint64(n) }

// Floor divides, rounded down.
func Floor(a, b int) (int, int, api.Throw) {
	q, r, e := Symm(a, b)
	// Rounding towards 0 went up just where something is left on the other side of 0 than b.
	up := r != 0 && (r < 0) != (b < 0)
	return which(up, q-1, q), which(up, r+b, r), e
}

// Symm divides, rounded towards 0.
func Symm(a, b int) (int, int, api.Throw) {
	if e := fault(a, b); e != api.OK {
		return 0, 0, e
	}
	return a / b, a % b, api.OK
}

// fault is why a is not divided by b, or OK.
func fault(a, b int) api.Throw {
	beyond := which(a == math.MinInt64 && b == -1, api.Range, api.OK)
	return which(b == 0, api.Zero, beyond)
}

// Within: does one lie between two, going round?
func Within(n, lo, hi int) bool { return Ult(n-lo, hi-lo) }

// Aligned is the next place that is aligned.
func Aligned(n int) int {
	// CellSize is a power of two: its multiples are the numbers whose low digits are 0.
	const low = api.CellSize - 1
	return (n + low) &^ low
}
