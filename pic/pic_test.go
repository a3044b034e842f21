package pic

import (
	"bytes"
	"encoding/binary"
	"fmt"
	"math"
	"math/big"
	"strings"
	"testing"

	"tenterhook/api"
)

const (
	least = math.MinInt
	most  = math.MaxInt
)

// The place of the area in most tests, the picture's beginning and its end; the memory goes on behind it.
const (
	at    = 64
	first = at + 32
	end   = at + 128
	size  = 256
)

// answer is all that a call tells: a memory, one or two numbers, a double, and a throw.
type answer struct {
	held string
	x, n int
	d    api.Dbl
	e    api.Throw
}

func (a answer) String() string {
	return fmt.Sprintf("(%q, %d, %d, %d %d, throw %d)", a.held, a.x, a.n, a.d.Lo, a.d.Hi, int(a.e))
}

func base(m []byte, user int) answer {
	b, e := Base(m, user)
	return answer{x: b, e: e}
}

func begin(m []byte, user int) answer {
	out, e := Begin(m, user)
	return answer{held: string(out), e: e}
}

func hold(m []byte, user, c int) answer {
	out, e := Hold(m, user, c)
	return answer{held: string(out), e: e}
}

func digit(m []byte, user int, d api.Dbl) answer {
	out, q, e := Digit(m, user, d)
	return answer{held: string(out), d: q, e: e}
}

func all(m []byte, user int, d api.Dbl) answer {
	out, q, e := All(m, user, d)
	return answer{held: string(out), d: q, e: e}
}

func sign(m []byte, user, n int) answer {
	out, e := Sign(m, user, n)
	return answer{held: string(out), e: e}
}

func ending(m []byte, user int) answer {
	x, n, e := End(m, user)
	return answer{x: x, n: n, e: e}
}

// spare are bytes behind the end of a memory that is handed in: no call may see or touch them.
const spare = 160

// memory is a memory of n bytes, no two neighbours the same, which has room behind its end.
func memory(n int) []byte {
	out := make([]byte, n+spare)
	for k := range out {
		out[k] = byte(151*k + 77)
	}
	return out[:n]
}

// laid is a copy of m, with its room, in which there is a cell, as far as the memory has a place for it.
func laid(m []byte, at, x int) []byte {
	out := bytes.Clone(m[:cap(m)])[:len(m):cap(m)]
	if at >= 0 && at <= len(m)-8 {
		binary.LittleEndian.PutUint64(out[at:], uint64(x))
	}
	return out
}

// area is a memory with an area at the place at: its base, and its held place.
func area(base, held int) []byte { return laid(laid(memory(size), at, base), at+8, held) }

// fresh is one in which a picture is begun.
func fresh(base int) []byte { return area(base, end) }

// with is a memory's text with other bytes at a place.
func with(m []byte, at int, other string) string {
	return string(m[:at]) + other + string(m[at+len(other):])
}

// cell is a cell's bytes.
func cell(x int) string { return string(binary.LittleEndian.AppendUint64(nil, uint64(x))) }

// pictured is the memory of an area with this picture, which was one without one.
func pictured(base int, text string) string {
	m := area(base, end-len(text))
	return with(m, end-len(text), text)
}

// whole is a double without a sign.
func whole(d api.Dbl) *big.Int {
	hi := new(big.Int).SetUint64(uint64(d.Hi))
	return hi.Add(hi.Lsh(hi, 64), new(big.Int).SetUint64(uint64(d.Lo)))
}

// double is the double of a whole number that is not below 0.
func double(n *big.Int) api.Dbl {
	lo := new(big.Int).And(n, new(big.Int).SetUint64(math.MaxUint64))
	return api.Dbl{Lo: int(lo.Uint64()), Hi: int(new(big.Int).Rsh(n, 64).Uint64())}
}

// power is a base's so many-th power, less n.
func power(base, times, n int) api.Dbl {
	p := new(big.Int).Exp(big.NewInt(int64(base)), big.NewInt(int64(times)), nil)
	return double(p.Sub(p, big.NewInt(int64(n))))
}

// textOf is a double's text without a sign.
func textOf(d api.Dbl, base int) string { return strings.ToUpper(whole(d).Text(base)) }

// doubles are of one cell and of two, with digits of all kinds, and with ends at which something turns.
func doubles() []api.Dbl {
	return []api.Dbl{
		{}, {Lo: 1}, {Lo: 2}, {Lo: 9}, {Lo: 10}, {Lo: 35}, {Lo: 36}, {Lo: 255}, {Lo: 256}, {Lo: 123456789}, {Lo: most}, {Lo: least}, {Lo: -1}, {Lo: -10},
		{Hi: 1}, {Lo: -1, Hi: 1}, {Lo: 5, Hi: 35}, {Hi: 36}, {Lo: 1, Hi: 1 << 31}, {Lo: -1, Hi: 1<<31 - 1}, {Hi: 1 << 32}, {Lo: 7, Hi: 0x0123456789ABCDEF},
		{Lo: -1, Hi: most}, {Hi: least}, {Lo: 1, Hi: least}, {Hi: -1}, {Lo: -1, Hi: -1}, {Lo: -2, Hi: -1}, {Lo: least, Hi: -5},
	}
}

// P10.1

func TestBase(t *testing.T) {
	for _, x := range []struct {
		base int
		want answer
	}{
		{2, answer{x: 2}}, {3, answer{x: 3}}, {10, answer{x: 10}}, {16, answer{x: 16}}, {35, answer{x: 35}}, {36, answer{x: 36}},
		{1, answer{e: api.Number}}, {37, answer{e: api.Number}}, {0, answer{e: api.Number}}, {-1, answer{e: api.Number}}, {-10, answer{e: api.Number}},
		// Bases, if their first byte, or their first half, were all.
		{256 + 10, answer{e: api.Number}}, {1<<32 + 10, answer{e: api.Number}}, {1<<63 - 1, answer{e: api.Number}}, {least, answer{e: api.Number}}, {least + 10, answer{e: api.Number}},
	} {
		if got := base(fresh(x.base), at); got != x.want {
			t.Errorf("Base, which is %d: %v, not %v", x.base, got, x.want)
		}
	}
	// The base is at the place user, whatever stands in the cells beside it.
	m := laid(laid(laid(memory(size), at-8, 7), at, 8), at+8, 9)
	if got := base(m, at); got != (answer{x: 8}) {
		t.Errorf("Base beside others: %v", got)
	}
}

func TestBaseWhereNoCellIs(t *testing.T) {
	for _, x := range []struct {
		n, user int
		want    api.Throw
	}{
		{16, 8, api.Number}, {16, 9, api.Address}, {16, 16, api.Address}, {16, 24, api.Address}, {15, 8, api.Address}, {16, 7, api.Align}, {16, 1, api.Align}, {16, 4, api.Align},
		{7, 0, api.Address}, {8, 0, api.Number}, {0, 0, api.Address}, {16, -1, api.Address}, {16, -8, api.Address},
	} {
		if got := base(memory(x.n), x.user); got != (answer{e: x.want}) {
			t.Errorf("Base(%d bytes, %d) = %v, not the throw %d", x.n, x.user, got, x.want)
		}
	}
	// A cell that ends just with the memory; the held place and the picture are not asked for.
	if got := base(laid(memory(16), 8, 10), 8); got != (answer{x: 10}) {
		t.Errorf("Base at the end of the memory: %v", got)
	}
}

func TestBegin(t *testing.T) {
	for _, x := range []struct{ user, held int }{{0, 128}, {8, 136}, {64, 192}, {128, 256}, {240 - 8, 360}} {
		m := memory(size)
		want := answer{held: with(m, x.user+8, cell(x.held))}
		if got := begin(m, x.user); got != want {
			t.Errorf("Begin(%d) = %v, not %v", x.user, got, want)
		}
	}
	for _, b := range []int{10, 1, 0, -1} {
		// What the base is, and what was held, is all the same.
		if got := begin(area(b, -7), at); got != (answer{held: pictured(b, "")}) {
			t.Errorf("Begin with the base %d: %v", b, got)
		}
	}
}

func TestBeginWhereNoCellIs(t *testing.T) {
	for _, x := range []struct {
		n, user int
		want    api.Throw
	}{
		// The cell at user + 8 alone is asked for: the picture need not be there.
		{16, 0, api.OK}, {15, 0, api.Address}, {16, 8, api.Address}, {16, 1, api.Address}, {17, 1, api.Align}, {24, 7, api.Align}, {24, 8, api.OK}, {24, 3, api.Align},
		{0, 0, api.Address}, {8, 0, api.Address}, {16, -8, api.Address}, {16, -1, api.Address},
	} {
		m := memory(x.n)
		want := answer{held: string(m), e: x.want}
		if x.want == api.OK {
			want.held = with(m, x.user+8, cell(x.user+128))
		}
		if got := begin(m, x.user); got != want {
			t.Errorf("Begin(%d bytes, %d) = %v, not %v", x.n, x.user, got, want)
		}
	}
}

// P10.2

func TestHoldLaysBytesModulo256(t *testing.T) {
	for _, x := range []struct {
		c    int
		want string
	}{
		{'x', "x"}, {0, "\x00"}, {1, "\x01"}, {127, "\x7f"}, {128, "\x80"}, {255, "\xff"},
		{256, "\x00"}, {256 + 'x', "x"}, {511, "\xff"}, {512, "\x00"}, {1<<32 + 'x', "x"},
		{-1, "\xff"}, {-2, "\xfe"}, {-128, "\x80"}, {-255, "\x01"}, {-256, "\x00"}, {-257, "\xff"}, {'x' - 256, "x"},
		{least, "\x00"}, {least + 1, "\x01"}, {most, "\xff"}, {most - 1, "\xfe"},
	} {
		if got := hold(fresh(10), at, x.c); got != (answer{held: pictured(10, x.want)}) {
			t.Errorf("Hold(%d) = %v, not %q laid", x.c, got, x.want)
		}
	}
}

func TestHoldAtEachHeldPlace(t *testing.T) {
	for _, x := range []struct {
		held int
		want api.Throw
	}{
		// The end of the area, and one beside it; the first byte of the picture, and one beside it.
		{end, api.OK}, {end + 1, api.PicOver}, {end - 1, api.OK}, {first, api.PicOver}, {first + 1, api.OK}, {first + 2, api.OK}, {first - 1, api.PicOver},
		{end + 2, api.PicOver}, {end + 8, api.PicOver}, {at, api.PicOver}, {at + 1, api.PicOver}, {at + 8, api.PicOver}, {at + 9, api.PicOver}, {0, api.PicOver}, {1, api.PicOver}, {-1, api.PicOver},
		{least, api.PicOver}, {least + 1, api.PicOver}, {least + first + 1, api.PicOver}, {most, api.PicOver}, {1<<32 + end, api.PicOver}, {end - 256, api.PicOver},
	} {
		m := area(10, x.held)
		want := answer{held: string(m), e: x.want}
		if x.want == api.OK {
			want.held = with(area(10, x.held-1), x.held-1, "x")
		}
		if got := hold(m, at, 'x'); got != want {
			t.Errorf("Hold, held at %d: %v, not %v", x.held, got, want)
		}
	}
}

func TestHoldAsksForNoBase(t *testing.T) {
	for _, b := range []int{0, 1, 37, -1} {
		if got := hold(fresh(b), at, 'x'); got != (answer{held: pictured(b, "x")}) {
			t.Errorf("Hold with the base %d: %v", b, got)
		}
	}
}

func TestHoldFillsThePicture(t *testing.T) {
	m, text := fresh(10), ""
	for k := range 96 {
		c := byte('!' + k%90)
		text = string(c) + text
		out, e := Hold(m, at, int(c))
		if e != api.OK || string(out) != pictured(10, text) {
			t.Fatalf("Hold for the %d. time: throw %d, %q", k+1, e, out)
		}
		m = out
	}
	if got := hold(m, at, '!'); got != (answer{held: string(m), e: api.PicOver}) {
		t.Errorf("Hold for the 97. time: %v", got)
	}
}

func TestHoldWhereNoCellOrNoByteIs(t *testing.T) {
	for _, x := range []struct {
		n, user, held int
		want          api.Throw
	}{
		{15, 0, 128, api.Address}, {16, 8, 136, api.Address}, {0, 0, 128, api.Address}, {16, -8, 120, api.Address}, {32, 3, 131, api.Align}, {16, 1, 129, api.Address},
		// An area that reaches over the end of the memory: the bytes that there are can be laid.
		{16, 0, 128, api.Address}, {16, 0, 33, api.Address}, {100, 0, 128, api.Address}, {100, 0, 102, api.Address}, {100, 0, 101, api.Address}, {100, 0, 100, api.OK}, {100, 0, 99, api.OK}, {127, 0, 128, api.Address}, {127, 0, 127, api.OK}, {128, 0, 128, api.OK},
		// PicOver goes ahead of a byte that is not there.
		{100, 0, 129, api.PicOver}, {100, 0, most, api.PicOver}, {16, 0, 32, api.PicOver}, {16, 0, least, api.PicOver}, {16, 0, 0, api.PicOver},
	} {
		m := laid(memory(x.n), x.user+8, x.held)
		want := answer{held: string(m), e: x.want}
		if x.want == api.OK {
			want.held = with(laid(m, x.user+8, x.held-1), x.held-1, "x")
		}
		if got := hold(m, x.user, 'x'); got != want {
			t.Errorf("Hold(%d bytes, %d), held at %d: %v, not %v", x.n, x.user, x.held, got, want)
		}
	}
}

// P10.3

func TestDigit(t *testing.T) {
	for _, x := range []struct {
		base int
		d, q api.Dbl
		want string
	}{
		{10, api.Dbl{Lo: 257}, api.Dbl{Lo: 25}, "7"}, {10, api.Dbl{Lo: 25}, api.Dbl{Lo: 2}, "5"}, {10, api.Dbl{Lo: 9}, api.Dbl{}, "9"}, {10, api.Dbl{Lo: 10}, api.Dbl{Lo: 1}, "0"}, {10, api.Dbl{}, api.Dbl{}, "0"},
		{2, api.Dbl{Lo: 6}, api.Dbl{Lo: 3}, "0"}, {2, api.Dbl{Lo: 7}, api.Dbl{Lo: 3}, "1"}, {16, api.Dbl{Lo: 0x1F}, api.Dbl{Lo: 1}, "F"}, {16, api.Dbl{Lo: 0x1A}, api.Dbl{Lo: 1}, "A"}, {36, api.Dbl{Lo: 35}, api.Dbl{}, "Z"}, {36, api.Dbl{Lo: 36}, api.Dbl{Lo: 1}, "0"}, {36, api.Dbl{Lo: 71}, api.Dbl{Lo: 1}, "Z"},
		// Of two cells: what is left of the high one goes into the low one; both are without a sign.
		{2, api.Dbl{Hi: 1}, api.Dbl{Lo: least}, "0"}, {2, api.Dbl{Lo: 1, Hi: 3}, api.Dbl{Lo: least, Hi: 1}, "1"}, {16, api.Dbl{Lo: -1, Hi: -1}, api.Dbl{Lo: -1, Hi: 1<<60 - 1}, "F"}, {10, api.Dbl{Lo: -1}, api.Dbl{Lo: 1844674407370955161}, "5"}, {10, api.Dbl{Hi: 1}, api.Dbl{Lo: 1844674407370955161}, "6"}, {16, api.Dbl{Hi: least}, api.Dbl{Hi: 1 << 59}, "0"},
	} {
		if got := digit(fresh(x.base), at, x.d); got != (answer{held: pictured(x.base, x.want), d: x.q}) {
			t.Errorf("Digit(%v) by %d: %v, not %v and %q", x.d, x.base, got, x.q, x.want)
		}
	}
}

func TestDigitsOfAllBases(t *testing.T) {
	for b := 2; b <= 36; b++ {
		for _, d := range doubles() {
			q, left := new(big.Int).DivMod(whole(d), big.NewInt(int64(b)), new(big.Int))
			want := answer{held: pictured(b, strings.ToUpper(left.Text(36))), d: double(q)}
			if got := digit(fresh(b), at, d); got != want {
				t.Errorf("Digit(%v) by %d: %v, not %v", d, b, got, want)
			}
		}
	}
}

func TestAll(t *testing.T) {
	for _, x := range []struct {
		base int
		d    api.Dbl
		want string
	}{
		{10, api.Dbl{Lo: 255}, "255"}, {16, api.Dbl{Lo: 255}, "FF"}, {2, api.Dbl{Lo: 255}, "11111111"}, {36, api.Dbl{Lo: 255}, "73"}, {36, api.Dbl{Lo: 36*35 + 34}, "ZY"},
		// At least one digit, and none ahead of the highest one.
		{10, api.Dbl{}, "0"}, {2, api.Dbl{}, "0"}, {36, api.Dbl{}, "0"}, {10, api.Dbl{Lo: 9}, "9"}, {10, api.Dbl{Lo: 10}, "10"}, {10, api.Dbl{Lo: 1000}, "1000"},
		{10, api.Dbl{Lo: -1}, "18446744073709551615"}, {10, api.Dbl{Hi: 1}, "18446744073709551616"}, {16, api.Dbl{Hi: 1}, "10000000000000000"}, {16, api.Dbl{Lo: 1, Hi: least}, "80000000000000000000000000000001"},
		// The greatest double.
		{10, api.Dbl{Lo: -1, Hi: -1}, "340282366920938463463374607431768211455"}, {16, api.Dbl{Lo: -1, Hi: -1}, "FFFFFFFFFFFFFFFFFFFFFFFFFFFFFFFF"}, {36, api.Dbl{Lo: -1, Hi: -1}, "F5LXX1ZZ5PNORYNQGLHZMSP33"},
		// A picture that is just full.
		{2, power(2, 96, 1), strings.Repeat("1", 96)}, {2, power(2, 95, 0), "1" + strings.Repeat("0", 95)},
	} {
		if got := all(fresh(x.base), at, x.d); got != (answer{held: pictured(x.base, x.want)}) {
			t.Errorf("All(%v) by %d: %v, not %q", x.d, x.base, got, x.want)
		}
	}
}

func TestAllLaysNothingWhereThereIsTooLittleRoom(t *testing.T) {
	for _, x := range []struct {
		base, held int
		d          api.Dbl
		want       string
	}{
		{2, end, power(2, 96, 0), ""}, {2, end, api.Dbl{Lo: -1, Hi: -1}, ""}, {2, end, api.Dbl{Hi: 1 << 40}, ""}, {3, end, power(3, 80, 0), "1" + strings.Repeat("0", 80)},
		{10, first + 3, api.Dbl{Lo: 999}, "999"}, {10, first + 3, api.Dbl{Lo: 1000}, ""}, {10, first + 1, api.Dbl{Lo: 9}, "9"}, {10, first + 1, api.Dbl{}, "0"}, {10, first + 1, api.Dbl{Lo: 10}, ""}, {10, first, api.Dbl{}, ""}, {10, first, api.Dbl{Lo: 5}, ""},
		{10, end + 1, api.Dbl{Lo: 5}, ""}, {10, end + 1, api.Dbl{Lo: 55}, ""}, {10, least, api.Dbl{Lo: 5}, ""}, {10, most, api.Dbl{Lo: 5}, ""}, {10, at + 8, api.Dbl{Lo: 5}, ""}, {10, 0, api.Dbl{Lo: 5}, ""},
	} {
		m := area(x.base, x.held)
		want := answer{held: string(m), e: api.PicOver}
		if x.want != "" {
			want = answer{held: with(area(x.base, x.held-len(x.want)), x.held-len(x.want), x.want)}
		}
		if got := all(m, at, x.d); got != want {
			t.Errorf("All(%v) by %d, held at %d: %v, not %v", x.d, x.base, x.held, got, want)
		}
	}
}

func TestThrowsOfDigits(t *testing.T) {
	d := api.Dbl{Lo: 1234, Hi: 1}
	for _, x := range []struct {
		what string
		m    []byte
		user int
		want api.Throw
	}{
		{"a base of 0", fresh(0), at, api.Number}, {"a base of 1", fresh(1), at, api.Number}, {"a base of 37", fresh(37), at, api.Number}, {"a base of -1", fresh(-1), at, api.Number}, {"a base of -10", fresh(-10), at, api.Number}, {"the least base", fresh(least), at, api.Number},
		{"a full picture", area(10, first), at, api.PicOver}, {"nothing held", area(10, 0), at, api.PicOver},
		// The base's throw is told first.
		{"no base, and a full picture", area(1, first), at, api.Number}, {"no base, and no held place", laid(memory(8), 0, 1), 0, api.Number}, {"no base, and no byte", laid(laid(memory(16), 0, 1), 8, 128), 0, api.Number},
		{"a base, and no held place", laid(memory(8), 0, 10), 0, api.Address}, {"a base, and a part of a held place", laid(memory(15), 0, 10), 0, api.Address}, {"a base, and no byte", laid(laid(memory(16), 0, 10), 8, 128), 0, api.Address},
		{"no memory", nil, 0, api.Address}, {"no byte", memory(0), 0, api.Address}, {"behind the memory", memory(size), size, api.Address}, {"an odd place", memory(size), 65, api.Align}, {"a place below 0", memory(size), -8, api.Address},
	} {
		want := answer{held: string(x.m), e: x.want}
		if got := digit(x.m, x.user, d); got != want {
			t.Errorf("Digit with %s: %v, not %v", x.what, got, want)
		}
		if got := all(x.m, x.user, d); got != want {
			t.Errorf("All with %s: %v, not %v", x.what, got, want)
		}
	}
	// The last digit alone is not in the memory, or all are there but the last ones.
	m := laid(laid(memory(127), 0, 10), 8, 128)
	if got := all(m, 0, api.Dbl{Lo: 55}); got != (answer{held: string(m), e: api.Address}) {
		t.Errorf("All, over the end of the memory: %v", got)
	}
	m = laid(m, 8, 127)
	if got := all(m, 0, api.Dbl{Lo: 55}); got != (answer{held: with(laid(m, 8, 125), 125, "55")}) {
		t.Errorf("All, up to the end of the memory: %v", got)
	}
}

func TestSign(t *testing.T) {
	for _, x := range []struct {
		n    int
		want string
	}{{-1, "-"}, {-2, "-"}, {-256, "-"}, {-1 << 32, "-"}, {least, "-"}, {0, ""}, {1, ""}, {255, ""}, {1 << 32, ""}, {most, ""}} {
		if got := sign(fresh(10), at, x.n); got != (answer{held: pictured(10, x.want)}) {
			t.Errorf("Sign(%d) = %v, not %q laid", x.n, got, x.want)
		}
	}
}

func TestThrowsOfSign(t *testing.T) {
	for _, x := range []struct {
		what string
		m    []byte
		user int
		want api.Throw
	}{
		{"a full picture", area(10, first), at, api.PicOver}, {"nothing held", area(10, 0), at, api.PicOver}, {"held too high", area(10, end+1), at, api.PicOver},
		{"no held place", memory(15), 0, api.Address}, {"no byte", laid(memory(16), 8, 128), 0, api.Address}, {"no memory", nil, 0, api.Address}, {"an odd place", memory(size), 3, api.Align}, {"the end of the memory", memory(size), size, api.Address},
	} {
		if got := sign(x.m, x.user, -1); got != (answer{held: string(x.m), e: x.want}) {
			t.Errorf("Sign(-1) with %s: %v, not the throw %d", x.what, got, x.want)
		}
		// Nothing is laid: nothing is asked for, but the user.
		for _, n := range []int{0, 1, most} {
			if got := sign(x.m, x.user, n); got != (answer{held: string(x.m)}) {
				t.Errorf("Sign(%d) with %s: %v", n, x.what, got)
			}
		}
	}
	// The base is all the same.
	if got := sign(fresh(0), at, -1); got != (answer{held: pictured(0, "-")}) {
		t.Errorf("Sign with the base 0: %v", got)
	}
}

// P10.4

func TestEnd(t *testing.T) {
	for _, x := range []struct {
		held int
		want answer
	}{
		{end, answer{x: end}}, {end - 1, answer{x: end - 1, n: 1}}, {end - 3, answer{x: end - 3, n: 3}}, {first + 1, answer{x: first + 1, n: 95}}, {first, answer{x: first, n: 96}},
		{end + 1, answer{e: api.Address}}, {first - 1, answer{e: api.Address}}, {end + 8, answer{e: api.Address}}, {at + 8, answer{e: api.Address}}, {at, answer{e: api.Address}}, {0, answer{e: api.Address}}, {-1, answer{e: api.Address}},
		{least, answer{e: api.Address}}, {least + end, answer{e: api.Address}}, {most, answer{e: api.Address}}, {1<<32 + end, answer{e: api.Address}}, {-end, answer{e: api.Address}},
	} {
		for _, b := range []int{10, 0, -1} {
			if got := ending(area(b, x.held), at); got != x.want {
				t.Errorf("End, held at %d, with the base %d: %v, not %v", x.held, b, got, x.want)
			}
		}
	}
}

func TestEndWhereNoCellIs(t *testing.T) {
	for _, x := range []struct {
		n, user, held int
		want          answer
	}{
		{15, 0, 128, answer{e: api.Address}}, {0, 0, 128, answer{e: api.Address}}, {16, 8, 128, answer{e: api.Address}}, {24, 7, 128, answer{e: api.Align}}, {24, 3, 128, answer{e: api.Align}}, {17, 1, 128, answer{e: api.Align}}, {16, 1, 128, answer{e: api.Address}}, {16, -8, 128, answer{e: api.Address}},
		// Where the picture lies is told of an area, too, that reaches over the end of the memory.
		{16, 0, 128, answer{x: 128}}, {16, 0, 32, answer{x: 32, n: 96}}, {100, 0, 120, answer{x: 120, n: 8}},
	} {
		if got := ending(laid(memory(x.n), x.user+8, x.held), x.user); got != x.want {
			t.Errorf("End(%d bytes, %d), held at %d: %v, not %v", x.n, x.user, x.held, got, x.want)
		}
	}
}

// each is what all calls tell of a user, Sign of numbers below 0, of 0 and above it.
func each(m []byte, user int) map[string]answer {
	return map[string]answer{
		"Base": base(m, user), "Begin": begin(m, user), "Hold": hold(m, user, 'x'), "Digit": digit(m, user, api.Dbl{Lo: 57}), "All": all(m, user, api.Dbl{Lo: 57}),
		"Sign -1": sign(m, user, -1), "Sign 0": sign(m, user, 0), "Sign 1": sign(m, user, 1), "End": ending(m, user),
	}
}

// nowhere is what a call tells of a user that is not there.
func nowhere(m []byte, name string) answer {
	if name == "Base" || name == "End" {
		return answer{e: api.Address}
	}
	return answer{held: string(m), e: api.Address}
}

func TestUsersThatAreNotThere(t *testing.T) {
	long := memory(6000)
	for user := 5000; user < 5400; user += 8 {
		// So that an area which begins there would do, were the user there.
		long = laid(laid(long, user, 10), user+8, user+128)
	}
	for _, m := range [][]byte{nil, memory(0), memory(16), memory(size), memory(5120), long} {
		for _, user := range []int{-1, -7, -8, -16, -128, -1 << 32, least, least + 1, least + 8, 5121, 5122, 5128, 5136, 5248, 5992, 6000, 1 << 32, 1 << 62, most, most - 7, most - 127} {
			for name, got := range each(m, user) {
				if want := nowhere(m, name); got != want {
					t.Errorf("%s, user %d, %d bytes: %v, not the throw %d", name, user, len(m), got, want.e)
				}
			}
		}
	}
}

func TestUsersAtTheEndsOfWhatIsThere(t *testing.T) {
	for _, user := range []int{0, 5120, 5112, 5120 - 128} {
		m := laid(laid(memory(6000), user, 10), user+8, user+128)
		held := func(n int, text string) string { return with(laid(m, user+8, user+n), user+n, text) }
		want := map[string]answer{
			"Base": {x: 10}, "Begin": {held: held(128, "")}, "Hold": {held: held(127, "x")}, "Digit": {held: held(127, "7"), d: api.Dbl{Lo: 5}}, "All": {held: held(126, "57")},
			"Sign -1": {held: held(127, "-")}, "Sign 0": {held: string(m)}, "Sign 1": {held: string(m)}, "End": {x: user + 128},
		}
		for name, got := range each(m, user) {
			if got != want[name] {
				t.Errorf("%s, user %d: %v, not %v", name, user, got, want[name])
			}
		}
	}
	// The greatest memory that there is ends just there: the user is, its cells are not.
	m := memory(5120)
	for name, got := range each(m, 5120) {
		want := nowhere(m, name)
		if name == "Sign 0" || name == "Sign 1" {
			want.e = api.OK
		}
		if got != want {
			t.Errorf("%s, user 5120: %v, not %v", name, got, want)
		}
	}
}

// P10.5

func TestAPictureOfAllDigitsIsTheText(t *testing.T) {
	for b := 2; b <= 36; b++ {
		for _, d := range doubles() {
			text := textOf(d, b)
			want := answer{held: pictured(b, text[max(len(text)-96, 0):])}
			if len(text) > 96 {
				want = answer{held: string(fresh(b)), e: api.PicOver}
			}
			if got := all(fresh(b), at, d); got != want {
				t.Errorf("All(%v) by %d: %v, not %q", d, b, got, text)
			}
		}
	}
}

func TestAllIsDigitByDigit(t *testing.T) {
	for b := 2; b <= 36; b++ {
		for _, d := range doubles() {
			text := textOf(d, b)
			m, left := fresh(b), d
			for k := range min(len(text), 96) {
				out, q, e := Digit(m, at, left)
				laid := text[len(text)-1-k:]
				if e != api.OK || string(out) != pictured(b, laid) || (q == api.Dbl{}) != (strings.Trim(text[:len(text)-1-k], "0") == "") {
					t.Fatalf("Digit %d of %v by %d: %v, throw %d", k, d, b, q, e)
				}
				m, left = out, q
			}
		}
	}
}

func TestARow(t *testing.T) {
	for _, x := range []struct {
		base     int
		d        api.Dbl
		n        int
		one, two string
	}{
		{10, api.Dbl{Lo: 25750}, -1, "50", "-$257.50"}, {10, api.Dbl{Lo: 25750}, 1, "50", "$257.50"}, {10, api.Dbl{}, 0, "00", "$0.00"}, {10, api.Dbl{Lo: 7}, least, "07", "-$0.07"},
		{16, api.Dbl{Lo: 0xBEEF}, 0, "EF", "$BE.EF"}, {2, api.Dbl{Lo: 5}, -1, "01", "-$1.01"}, {36, api.Dbl{Lo: 36*36*10 + 35}, most, "0Z", "$A.0Z"}, {10, api.Dbl{Hi: 1}, -5, "16", "-$184467440737095516.16"},
	} {
		m, e := Begin(area(x.base, -99), at)
		m, d, f := Digit(m, at, x.d)
		m, d, g := Digit(m, at, d)
		if e != api.OK || f != api.OK || g != api.OK || string(m) != pictured(x.base, x.one) {
			t.Errorf("Digit twice, of %v by %d: %q", x.d, x.base, m)
		}
		m, e = Hold(m, at, '.')
		m, d, f = All(m, at, d)
		m, g = Hold(m, at, '$')
		m, h := Sign(m, at, x.n)
		if e != api.OK || f != api.OK || g != api.OK || h != api.OK || d != (api.Dbl{}) || string(m) != pictured(x.base, x.two) {
			t.Errorf("a row, of %v by %d: %q, not %q", x.d, x.base, m, x.two)
		}
		if got := ending(m, at); got != (answer{x: end - len(x.two), n: len(x.two)}) {
			t.Errorf("End of a row, of %v by %d: %v", x.d, x.base, got)
		}
		if m, e = Begin(m, at); e != api.OK || ending(m, at) != (answer{x: end}) {
			t.Errorf("Begin behind a row: throw %d, %v", e, ending(m, at))
		}
	}
}

// P1, and R3: a model that is asked at all mixes of arguments, among them such as are out of range. No call changes what it is given.

// cellAt is the model's cell at a place.
func cellAt(m []byte, at int) (int, api.Throw) {
	switch {
	case at < 0 || at > len(m)-8:
		return 0, api.Address
	case at%8 != 0:
		return 0, api.Align
	}
	return int(binary.LittleEndian.Uint64(m[at:])), api.OK
}

// holding is the model of laying one byte: the memory, which may be m itself.
func holding(m []byte, user, c int) ([]byte, api.Throw) {
	held, e := ownCell(m, user, 8)
	if e != api.OK {
		return m, e
	}
	place := new(big.Int).Sub(big.NewInt(int64(held)), big.NewInt(int64(user+1)))
	if place.Cmp(big.NewInt(32)) < 0 || place.Cmp(big.NewInt(127)) > 0 {
		return m, api.PicOver
	}
	if held > len(m) {
		return m, api.Address
	}
	out := laid(m, user+8, held-1)
	out[held-1] = byte(c)
	return out, api.OK
}

// digiting is the model of digits, one or all of them.
func digiting(m []byte, user int, d api.Dbl, all bool) answer {
	b := basing(m, user)
	if b.e != api.OK {
		return answer{held: string(m), e: b.e}
	}
	text := textOf(d, b.x)
	count := len(text)
	if !all {
		count = 1
	}
	out := m
	for k := range count {
		var e api.Throw
		if out, e = holding(out, user, int(text[len(text)-1-k])); e != api.OK {
			return answer{held: string(m), e: e}
		}
	}
	if all {
		return answer{held: string(out)}
	}
	return answer{held: string(out), d: double(new(big.Int).Div(whole(d), big.NewInt(int64(b.x))))}
}

// ownCell is the model's cell of a user's area.
func ownCell(m []byte, user, behind int) (int, api.Throw) {
	if user < 0 || user > 5120 {
		return 0, api.Address
	}
	return cellAt(m, user+behind)
}

// basing is the model of Base.
func basing(m []byte, user int) answer {
	b, e := ownCell(m, user, 0)
	if e == api.OK && (b < 2 || b > 36) {
		b, e = 0, api.Number
	}
	return answer{x: b, e: e}
}

// beginning is the model of Begin.
func beginning(m []byte, user int) answer {
	if _, e := ownCell(m, user, 8); e != api.OK {
		return answer{held: string(m), e: e}
	}
	return answer{held: with(m, user+8, cell(user+128))}
}

// closing is the model of End.
func closing(m []byte, user int) answer {
	held, e := ownCell(m, user, 8)
	for n := range 97 {
		if e == api.OK && held == user+128-n {
			return answer{x: held, n: n}
		}
	}
	if e == api.OK {
		e = api.Address
	}
	return answer{e: e}
}

// asked holds the calls of one memory and user against the model.
func asked(t *testing.T, m []byte, user int) {
	t.Helper()
	before := string(m[:cap(m)])
	same := func(what string, got, want answer) {
		t.Helper()
		if got != want {
			t.Errorf("%s, user %d, %d bytes: %v, not %v", what, user, len(m), got, want)
		}
		if string(m[:cap(m)]) != before {
			t.Fatalf("%s, user %d, %d bytes: what it was given is another one", what, user, len(m))
		}
	}
	for _, c := range []int{'x', 0, -1, 256 + 'y', least, most} {
		out, e := holding(m, user, c)
		same("Hold", hold(m, user, c), answer{held: string(out), e: e})
	}
	for _, d := range []api.Dbl{{}, {Lo: 57}, {Lo: -1}, {Hi: 1}, {Lo: -1, Hi: -1}, {Lo: least, Hi: least}, {Hi: most}} {
		same("Digit", digit(m, user, d), digiting(m, user, d, false))
		same("All", all(m, user, d), digiting(m, user, d, true))
	}
	for _, n := range []int{-1, least, 0, 1, most} {
		out, e := m, api.OK
		if n < 0 {
			out, e = holding(m, user, '-')
		} else if user < 0 || user > 5120 {
			e = api.Address
		}
		same("Sign", sign(m, user, n), answer{held: string(out), e: e})
	}
	same("Base", base(m, user), basing(m, user))
	same("Begin", begin(m, user), beginning(m, user))
	same("End", ending(m, user), closing(m, user))
}

func TestAllCallsAgainstTheModel(t *testing.T) {
	for _, n := range []int{0, 1, 7, 8, 9, 15, 16, 17, 24, 32, 33, 40, 100, 127, 128, 129, 136, 200, size} {
		for _, user := range []int{0, 1, 4, 7, 8, 9, 16, 64, 120, 128, size - 16, size - 8, size, 5112, 5120, 5121, 5128, -1, -8, -9, least, least + 8, most, most - 7} {
			for _, b := range []int{10, 2, 36, 1, 37, 0, least} {
				for _, behind := range []int{128, 127, 129, 100, 34, 33, 32, 31, 8, 0, -1, least, most} {
					asked(t, laid(laid(memory(n), user, b), user+8, user+behind), user)
				}
			}
		}
	}
	asked(t, nil, 0)
	asked(t, nil, most)
}

func TestTwoCallsOnOneMemory(t *testing.T) {
	m := fresh(10)
	one, _ := Hold(m, at, 'a')
	two, _ := Hold(m, at, 'b')
	three, _, _ := All(m, at, api.Dbl{Lo: 345})
	four, _ := Hold(one, at, 'c')
	for k, x := range []struct {
		got  []byte
		want string
	}{{m, ""}, {one, "a"}, {two, "b"}, {three, "345"}, {four, "ca"}} {
		if string(x.got) != pictured(10, x.want) {
			t.Errorf("%d: %q, not %q", k, x.got, x.want)
		}
	}
}
