package mem

import (
	"bytes"
	"encoding/binary"
	"fmt"
	"math"
	"math/big"
	"testing"

	"tenterhook/api"
)

const (
	least = math.MinInt
	most  = math.MaxInt
)

// answer is all that a call tells: a memory or a text, a number, and a throw.
type answer struct {
	held string
	x    int
	e    api.Throw
}

func (a answer) String() string { return fmt.Sprintf("(%q, %d, throw %d)", a.held, a.x, int(a.e)) }

func get(m []byte, at int) answer {
	x, e := Get(m, at)
	return answer{"", x, e}
}

func put(m []byte, at, x int) answer {
	p, e := Put(m, at, x)
	return answer{string(p), 0, e}
}

func getByte(m []byte, at int) answer {
	x, e := Byte(m, at)
	return answer{"", x, e}
}

func putByte(m []byte, at, x int) answer {
	p, e := PutByte(m, at, x)
	return answer{string(p), 0, e}
}

func fill(m []byte, at, n, x int) answer {
	p, e := Fill(m, at, n, x)
	return answer{string(p), 0, e}
}

func move(m []byte, from, to, n int) answer {
	p, e := Move(m, from, to, n)
	return answer{string(p), 0, e}
}

func text(m []byte, at, n int) answer {
	s, e := Text(m, at, n)
	return answer{s, 0, e}
}

func swap(m []byte, at, old, x int) answer {
	p, ok, e := Swap(m, at, old, x)
	return answer{string(p), ok, e}
}

// spare are bytes behind the end of a memory that is handed in: no call may see or touch them.
const spare = 24

// memory is a memory of n bytes, no two neighbours the same, which has room behind its end.
func memory(n int) []byte {
	out := make([]byte, n+spare)
	for k := range out {
		out[k] = byte(151*k + 77)
	}
	return out[:n]
}

// memories are of no bytes, of fewer than a cell, of whole cells, and of some bytes more.
func memories() [][]byte {
	out := [][]byte{nil, {}}
	for _, n := range []int{0, 1, 7, 8, 9, 15, 16, 20} {
		out = append(out, memory(n))
	}
	return out
}

// edges are places and counts about the beginning and the end of n bytes, and at the ends of all numbers, among them such that two of them go round to a sum that would do.
func edges(n int) []int {
	out := []int{least, least + 1, least + 7, least + 8, least + 16, most, most - 1, most - 7, most - 8, most - 15, -1 << 32, 1 << 32, 1<<32 + 8, 1 << 62, -1 << 62}
	for k := -9; k <= n+9; k++ {
		out = append(out, k)
	}
	return out
}

// cells are numbers of one digit, of all eight bytes, and of both signs.
func cells() []int {
	return []int{0, 1, -1, 255, 256, 258, -256, 0x0102030405060708, -0x0102030405060708, 1 << 56, 1 << 62, least, least + 1, most, most - 1}
}

// fits: are n places from at on all there, or is at at most the end, of n 0? Of whole numbers that do not go round.
func fits(m []byte, at, n int) bool {
	end := new(big.Int).Add(big.NewInt(int64(at)), big.NewInt(int64(n)))
	return n >= 0 && at >= 0 && end.Cmp(big.NewInt(int64(len(m)))) <= 0
}

// wrong is what a cell at a place throws.
func wrong(m []byte, at int) api.Throw {
	switch {
	case !fits(m, at, 8):
		return api.Address
	case at%8 != 0:
		return api.Align
	}
	return api.OK
}

// put8 and fillOf are what is asked: each byte is the old one, but those that are put.

func put8(m []byte, at, x int) string {
	out := bytes.Clone(m)
	binary.LittleEndian.PutUint64(out[at:], uint64(x))
	return string(out)
}

func fillOf(m []byte, at, n, x int) string {
	out := bytes.Clone(m)
	for k := at; k < at+n; k++ {
		out[k] = byte(new(big.Int).Mod(big.NewInt(int64(x)), big.NewInt(256)).Int64())
	}
	return string(out)
}

// P3.1

func TestNew(t *testing.T) {
	for _, x := range []struct{ n, want int }{
		{0, 0}, {1, 1}, {7, 7}, {8, 8}, {24, 24}, {5119, 5119}, {5120, 5120},
		{-1, 0}, {-8, 0}, {least, 0}, {5121, 5120}, {9999, 5120}, {1 << 32, 5120}, {most, 5120},
	} {
		if got := New(x.n); !bytes.Equal(got, bytes.Repeat([]byte{0}, x.want)) {
			t.Errorf("New(%d): %d bytes: %v", x.n, len(got), got)
		}
	}
}

func TestCellsAreLowestFirst(t *testing.T) {
	for _, x := range []struct {
		x    int
		want string
	}{
		{258, "\x02\x01\x00\x00\x00\x00\x00\x00"}, {0, "\x00\x00\x00\x00\x00\x00\x00\x00"}, {255, "\xff\x00\x00\x00\x00\x00\x00\x00"},
		{-1, "\xff\xff\xff\xff\xff\xff\xff\xff"}, {-2, "\xfe\xff\xff\xff\xff\xff\xff\xff"}, {-256, "\x00\xff\xff\xff\xff\xff\xff\xff"},
		{least, "\x00\x00\x00\x00\x00\x00\x00\x80"}, {most, "\xff\xff\xff\xff\xff\xff\xff\x7f"},
		{0x0102030405060708, "\x08\x07\x06\x05\x04\x03\x02\x01"},
	} {
		if got := put(New(8), 0, x.x); got != (answer{x.want, 0, api.OK}) {
			t.Errorf("Put of %d: %v", x.x, got)
		}
		if got := get([]byte(x.want), 0); got != (answer{"", x.x, api.OK}) {
			t.Errorf("Get of %q: %v", x.want, got)
		}
		if got := put([]byte("abcdefgh--------abcdefgh"), 8, x.x); got != (answer{"abcdefgh" + x.want + "abcdefgh", 0, api.OK}) {
			t.Errorf("Put of %d in the middle: %v", x.x, got)
		}
	}
}

func TestThrowsOfCells(t *testing.T) {
	for _, x := range []struct {
		n, at int
		want  api.Throw
	}{
		{24, 0, api.OK}, {24, 8, api.OK}, {24, 1, api.Align}, {24, 7, api.Align}, {24, 4, api.Align}, {24, 15, api.Align},
		// A cell that ends just with the last byte, and those that end behind it: Address goes ahead of Align.
		{24, 16, api.OK}, {24, 17, api.Address}, {24, 20, api.Address}, {24, 23, api.Address}, {24, 24, api.Address}, {24, 25, api.Address}, {24, 32, api.Address},
		{23, 15, api.Align}, {23, 16, api.Address}, {25, 17, api.Align}, {25, 16, api.OK}, {25, 18, api.Address},
		{7, 0, api.Address}, {8, 0, api.OK}, {8, 1, api.Address}, {9, 1, api.Align}, {0, 0, api.Address}, {0, -8, api.Address},
		{24, -1, api.Address}, {24, -7, api.Address}, {24, -8, api.Address}, {24, -16, api.Address},
		{24, least, api.Address}, {24, least + 1, api.Address}, {24, least + 8, api.Address},
		{24, most, api.Address}, {24, most - 7, api.Address}, {24, most - 8, api.Address}, {24, 1 << 32, api.Address},
		{5120, 5112, api.OK}, {5120, 5113, api.Address}, {5120, 5120, api.Address}, {5120, 5111, api.Align},
	} {
		m := memory(x.n)
		if got := get(m, x.at); got.e != x.want || x.want != api.OK && got.x != 0 {
			t.Errorf("Get(%d bytes, %d) = %v", x.n, x.at, got)
		}
		if got := put(m, x.at, 5); got.e != x.want || x.want != api.OK && got.held != string(m) {
			t.Errorf("Put(%d bytes, %d) throws %d", x.n, x.at, got.e)
		}
	}
}

func TestCellsAtAllPlaces(t *testing.T) {
	for _, m := range memories() {
		for _, at := range edges(len(m)) {
			e := wrong(m, at)
			want := answer{"", 0, e}
			if e == api.OK {
				want.x = int(binary.LittleEndian.Uint64(m[at:]))
			}
			if got := get(m, at); got != want {
				t.Errorf("Get(%v, %d) = %v, not %v", m, at, got, want)
			}
			for _, x := range cells() {
				want := answer{string(m), 0, e}
				if e == api.OK {
					want.held = put8(m, at, x)
				}
				if got := put(m, at, x); got != want {
					t.Errorf("Put(%v, %d, %d) = %v, not %v", m, at, x, got, want)
				}
			}
		}
	}
}

// P3.2

func TestByte(t *testing.T) {
	m := []byte{7, 0, 128, 255}
	for _, x := range []struct {
		at   int
		want answer
	}{
		{0, answer{"", 7, api.OK}}, {1, answer{"", 0, api.OK}}, {2, answer{"", 128, api.OK}}, {3, answer{"", 255, api.OK}},
		{4, answer{"", 0, api.Address}}, {5, answer{"", 0, api.Address}}, {-1, answer{"", 0, api.Address}},
		{least, answer{"", 0, api.Address}}, {most, answer{"", 0, api.Address}}, {1 << 32, answer{"", 0, api.Address}},
	} {
		if got := getByte(m, x.at); got != x.want {
			t.Errorf("Byte(%d) = %v", x.at, got)
		}
	}
}

func TestPutByte(t *testing.T) {
	for _, x := range []struct {
		at, x int
		want  answer
	}{
		{0, 'x', answer{"xbc", 0, api.OK}}, {1, 'x', answer{"axc", 0, api.OK}}, {2, 'x', answer{"abx", 0, api.OK}},
		{1, 0, answer{"a\x00c", 0, api.OK}}, {1, 255, answer{"a\xffc", 0, api.OK}}, {1, 256, answer{"a\x00c", 0, api.OK}}, {1, 256 + 'x', answer{"axc", 0, api.OK}},
		{1, -1, answer{"a\xffc", 0, api.OK}}, {1, -255, answer{"a\x01c", 0, api.OK}}, {1, -256, answer{"a\x00c", 0, api.OK}}, {1, -257, answer{"a\xffc", 0, api.OK}},
		{1, least, answer{"a\x00c", 0, api.OK}}, {1, least + 1, answer{"a\x01c", 0, api.OK}}, {1, most, answer{"a\xffc", 0, api.OK}},
		// With this throw no memory comes (R2): the chapter does not say that one does.
		{3, 'x', answer{"", 0, api.Address}}, {4, 'x', answer{"", 0, api.Address}}, {-1, 'x', answer{"", 0, api.Address}},
		{least, 'x', answer{"", 0, api.Address}}, {most, 'x', answer{"", 0, api.Address}}, {1 << 32, 'x', answer{"", 0, api.Address}},
	} {
		if got := putByte([]byte("abc"), x.at, x.x); got != x.want {
			t.Errorf("PutByte(%d, %d) = %v", x.at, x.x, got)
		}
	}
}

func TestBytesAtAllPlaces(t *testing.T) {
	for _, m := range memories() {
		for _, at := range edges(len(m)) {
			want := answer{"", 0, api.Address}
			if fits(m, at, 1) {
				want = answer{"", int(m[at]), api.OK}
			}
			if got := getByte(m, at); got != want {
				t.Errorf("Byte(%v, %d) = %v, not %v", m, at, got, want)
			}
			for _, x := range cells() {
				want := answer{"", 0, api.Address}
				if fits(m, at, 1) {
					want = answer{fillOf(m, at, 1, x), 0, api.OK}
				}
				if got := putByte(m, at, x); got != want {
					t.Errorf("PutByte(%v, %d, %d) = %v, not %v", m, at, x, got, want)
				}
			}
		}
	}
}

// P3.3

func TestFill(t *testing.T) {
	const was = "abcdefgh"
	for _, x := range []struct {
		at, n, x int
		want     answer
	}{
		{0, 3, 'x', answer{"xxxdefgh", 0, api.OK}}, {2, 4, 'x', answer{"abxxxxgh", 0, api.OK}}, {6, 2, 'x', answer{"abcdefxx", 0, api.OK}}, {0, 8, 'x', answer{"xxxxxxxx", 0, api.OK}},
		{3, 1, 256 + 'x', answer{"abcxefgh", 0, api.OK}}, {3, 2, -1, answer{"abc\xff\xfffgh", 0, api.OK}}, {3, 1, -256, answer{"abc\x00efgh", 0, api.OK}},
		{3, 1, least, answer{"abc\x00efgh", 0, api.OK}}, {3, 1, most, answer{"abc\xffefgh", 0, api.OK}},
		// Of n 0: up to how many bytes there are.
		{0, 0, 'x', answer{was, 0, api.OK}}, {8, 0, 'x', answer{was, 0, api.OK}}, {9, 0, 'x', answer{was, 0, api.Address}}, {-1, 0, 'x', answer{was, 0, api.Address}},
		{7, 2, 'x', answer{was, 0, api.Address}}, {8, 1, 'x', answer{was, 0, api.Address}}, {0, 9, 'x', answer{was, 0, api.Address}},
		{-1, 2, 'x', answer{was, 0, api.Address}}, {0, -1, 'x', answer{was, 0, api.Address}}, {8, -1, 'x', answer{was, 0, api.Address}}, {4, least, 'x', answer{was, 0, api.Address}},
		{1, most, 'x', answer{was, 0, api.Address}}, {most, 1, 'x', answer{was, 0, api.Address}}, {most, most, 'x', answer{was, 0, api.Address}},
		{least, most, 'x', answer{was, 0, api.Address}}, {least, least, 'x', answer{was, 0, api.Address}},
	} {
		if got := fill([]byte(was), x.at, x.n, x.x); got != x.want {
			t.Errorf("Fill(%d, %d, %d) = %v, not %v", x.at, x.n, x.x, got, x.want)
		}
	}
}

func TestMove(t *testing.T) {
	const was = "abcdefgh"
	for _, x := range []struct {
		from, to, n int
		want        answer
	}{
		{0, 4, 4, answer{"abcdabcd", 0, api.OK}}, {4, 0, 4, answer{"efghefgh", 0, api.OK}}, {7, 0, 1, answer{"hbcdefgh", 0, api.OK}},
		// Over bytes that overlap, both ways: what is moved is what they were.
		{0, 2, 4, answer{"ababcdgh", 0, api.OK}}, {2, 0, 4, answer{"cdefefgh", 0, api.OK}}, {0, 1, 7, answer{"aabcdefg", 0, api.OK}}, {1, 0, 7, answer{"bcdefghh", 0, api.OK}},
		{0, 0, 8, answer{was, 0, api.OK}}, {3, 3, 2, answer{was, 0, api.OK}},
		{0, 8, 0, answer{was, 0, api.OK}}, {8, 0, 0, answer{was, 0, api.OK}}, {8, 8, 0, answer{was, 0, api.OK}}, {0, 0, 0, answer{was, 0, api.OK}},
		{9, 0, 0, answer{was, 0, api.Address}}, {0, 9, 0, answer{was, 0, api.Address}}, {-1, 0, 0, answer{was, 0, api.Address}}, {0, -1, 0, answer{was, 0, api.Address}},
		{0, 5, 4, answer{was, 0, api.Address}}, {5, 0, 4, answer{was, 0, api.Address}}, {0, 0, 9, answer{was, 0, api.Address}}, {8, 0, 1, answer{was, 0, api.Address}}, {0, 8, 1, answer{was, 0, api.Address}},
		{-1, 0, 2, answer{was, 0, api.Address}}, {0, -1, 2, answer{was, 0, api.Address}}, {0, 1, -1, answer{was, 0, api.Address}}, {4, 4, least, answer{was, 0, api.Address}},
		{0, 0, most, answer{was, 0, api.Address}}, {1, 1, most, answer{was, 0, api.Address}}, {most, 0, 1, answer{was, 0, api.Address}}, {0, most, 1, answer{was, 0, api.Address}},
		{least, 0, most, answer{was, 0, api.Address}}, {0, least, 0, answer{was, 0, api.Address}}, {least, least, least, answer{was, 0, api.Address}},
	} {
		if got := move([]byte(was), x.from, x.to, x.n); got != x.want {
			t.Errorf("Move(%d, %d, %d) = %v, not %v", x.from, x.to, x.n, got, x.want)
		}
	}
}

func TestText(t *testing.T) {
	for _, x := range []struct {
		at, n int
		want  answer
	}{
		{0, 8, answer{"ab\x00\xff\xc3fgh", 0, api.OK}}, {0, 1, answer{"a", 0, api.OK}}, {2, 3, answer{"\x00\xff\xc3", 0, api.OK}}, {7, 1, answer{"h", 0, api.OK}},
		{0, 0, answer{"", 0, api.OK}}, {8, 0, answer{"", 0, api.OK}}, {9, 0, answer{"", 0, api.Address}}, {-1, 0, answer{"", 0, api.Address}},
		{0, 9, answer{"", 0, api.Address}}, {2, 7, answer{"", 0, api.Address}}, {8, 1, answer{"", 0, api.Address}}, {-1, 1, answer{"", 0, api.Address}}, {-1, 2, answer{"", 0, api.Address}},
		{0, -1, answer{"", 0, api.Address}}, {4, least, answer{"", 0, api.Address}}, {1, most, answer{"", 0, api.Address}}, {most, 1, answer{"", 0, api.Address}},
		{most, most, answer{"", 0, api.Address}}, {least, most, answer{"", 0, api.Address}}, {least, least, answer{"", 0, api.Address}},
	} {
		if got := text([]byte("ab\x00\xff\xc3fgh"), x.at, x.n); got != x.want {
			t.Errorf("Text(%d, %d) = %v, not %v", x.at, x.n, got, x.want)
		}
	}
}

func TestFillAndTextAtAllPlaces(t *testing.T) {
	for _, m := range memories() {
		for _, at := range edges(len(m)) {
			for _, n := range edges(len(m)) {
				filled, told := answer{string(m), 0, api.Address}, answer{"", 0, api.Address}
				if fits(m, at, n) {
					filled, told = answer{fillOf(m, at, n, -3), 0, api.OK}, answer{string(m)[at : at+n], 0, api.OK}
				}
				if got := fill(m, at, n, -3); got != filled {
					t.Errorf("Fill(%v, %d, %d, -3) = %v, not %v", m, at, n, got, filled)
				}
				if got := text(m, at, n); got != told {
					t.Errorf("Text(%v, %d, %d) = %v, not %v", m, at, n, got, told)
				}
			}
		}
	}
}

// moveOf is what is asked, by a text of what was.
func moveOf(m []byte, from, to, n int) string {
	was := string(m)
	return was[:to] + was[from:from+n] + was[to+n:]
}

func TestMoveAtAllPlaces(t *testing.T) {
	for _, m := range memories() {
		for _, from := range edges(len(m)) {
			for _, to := range edges(len(m)) {
				for _, n := range edges(len(m)) {
					want := answer{string(m), 0, api.Address}
					if fits(m, from, n) && fits(m, to, n) {
						want = answer{moveOf(m, from, to, n), 0, api.OK}
					}
					if got := move(m, from, to, n); got != want {
						t.Fatalf("Move(%v, %d, %d, %d) = %v, not %v", m, from, to, n, got, want)
					}
				}
			}
		}
	}
}

// P3.4

func TestSwap(t *testing.T) {
	const was, other = "\x07\x00\x00\x00\x00\x00\x00\x00\xff\xff\xff\xff\xff\xff\xff\xff", "\x02\x01\x00\x00\x00\x00\x00\x00"
	for _, x := range []struct {
		at, old int
		want    answer
	}{
		{0, 7, answer{other + was[8:], -1, api.OK}}, {8, -1, answer{was[:8] + other, -1, api.OK}},
		{0, -1, answer{was, 0, api.OK}}, {8, 7, answer{was, 0, api.OK}}, {0, 0, answer{was, 0, api.OK}}, {0, 7 + 256, answer{was, 0, api.OK}},
		{8, most, answer{was, 0, api.OK}}, {0, least + 7, answer{was, 0, api.OK}}, {8, 255, answer{was, 0, api.OK}},
		{4, 7, answer{was, 0, api.Align}}, {1, 0, answer{was, 0, api.Align}}, {8, 0, answer{was, 0, api.OK}},
		// The 0 that Get tells with a throw is not one that is there.
		{9, 0, answer{was, 0, api.Address}}, {16, 0, answer{was, 0, api.Address}}, {-8, 0, answer{was, 0, api.Address}}, {7, 0, answer{was, 0, api.Align}},
		{least, 0, answer{was, 0, api.Address}}, {most, 0, answer{was, 0, api.Address}}, {most - 7, 0, answer{was, 0, api.Address}},
	} {
		if got := swap([]byte(was), x.at, x.old, 258); got != x.want {
			t.Errorf("Swap(%d, %d) = %v, not %v", x.at, x.old, got, x.want)
		}
	}
	if got := swap([]byte(was), 0, 7, 7); got != (answer{was, -1, api.OK}) {
		t.Errorf("Swap of 7 for 7 = %v", got)
	}
}

func TestSwapAtAllPlaces(t *testing.T) {
	for _, m := range memories() {
		for _, at := range edges(len(m)) {
			is := get(m, at)
			for _, x := range cells() {
				want := answer{string(m), 0, is.e}
				if got := swap(m, at, is.x+1, x); got != want {
					t.Errorf("Swap(%v, %d, another, %d) = %v, not %v", m, at, x, got, want)
				}
				if is.e == api.OK {
					want = answer{put8(m, at, x), -1, api.OK}
				}
				if got := swap(m, at, is.x, x); got != want {
					t.Errorf("Swap(%v, %d, what is there, %d) = %v, not %v", m, at, x, got, want)
				}
			}
		}
	}
}

// P3.5

// outside: are two memories of one length the same but for n bytes from a place on?
func outside(a, b []byte, at, n int) bool {
	return len(a) == len(b) && bytes.Equal(a[:at], b[:at]) && bytes.Equal(a[at+n:], b[at+n:])
}

func TestWhatWasPutIsThere(t *testing.T) {
	m := memory(64)
	for at := 0; at < len(m); at += 8 {
		for _, x := range cells() {
			p, _ := Put(m, at, x)
			if got := get(p, at); got != (answer{"", x, api.OK}) || !outside(p, m, at, 8) {
				t.Errorf("Put(%d, %d): %v", at, x, p)
			}
			q, _, _ := Swap(m, at, get(m, at).x, x)
			if got := get(q, at); got != (answer{"", x, api.OK}) || !outside(q, m, at, 8) {
				t.Errorf("Swap(%d, %d): %v", at, x, q)
			}
		}
	}
	for at := range m {
		for x := range 256 {
			p, _ := PutByte(m, at, x)
			if got := getByte(p, at); got != (answer{"", x, api.OK}) || !outside(p, m, at, 1) {
				t.Errorf("PutByte(%d, %d): %v", at, x, p)
			}
		}
		for n := range len(m) - at + 1 {
			p, _ := Fill(m, at, n, 'x')
			if got := text(p, at, n); got != (answer{string(bytes.Repeat([]byte("x"), n)), 0, api.OK}) || !outside(p, m, at, n) {
				t.Errorf("Fill(%d, %d): %v", at, n, p)
			}
			q, _ := Move(m, len(m)-n, at, n)
			if got := text(q, at, n); got != text(m, len(m)-n, n) || !outside(q, m, at, n) {
				t.Errorf("Move(%d, %d, %d): %v", len(m)-n, at, n, q)
			}
		}
	}
}

func TestWhatWasPutOneByOneIsAllThere(t *testing.T) {
	m, want := New(api.MemSize), make([]byte, api.MemSize)
	for k := range 2000 {
		at, x := k*1237%api.MemSize, k*7919-5000
		if k%3 == 0 {
			at = at / 8 * 8
			m, _ = Put(m, at, x)
			binary.LittleEndian.PutUint64(want[at:], uint64(x))
		} else {
			m, _ = PutByte(m, at, x)
			want[at] = byte(x)
		}
	}
	if !bytes.Equal(m, want) {
		t.Error("another memory than what was put")
	}
}

// P1 and R3

// calls does every call with these numbers as its places, counts and cells.
func calls(m []byte, a, b, c int) {
	New(a)
	Get(m, a)
	Put(m, a, b)
	Byte(m, a)
	PutByte(m, a, b)
	Fill(m, a, b, c)
	Move(m, a, b, c)
	Text(m, a, b)
	Swap(m, a, b, c)
	Swap(m, a, get(m, a).x, c)
}

func TestNoCallPanicsOrChangesWhatIsHandedIn(t *testing.T) {
	for _, m := range memories() {
		whole := m[:cap(m)]
		was := bytes.Clone(whole)
		for _, a := range edges(len(m)) {
			for _, b := range edges(len(m)) {
				for _, c := range edges(len(m)) {
					calls(m, a, b, c)
				}
				if !bytes.Equal(whole, was) {
					t.Fatalf("calls with %d, %d changed %v to %v", a, b, was, whole)
				}
			}
		}
	}
}

func TestWhatIsAnsweredStaysAsItIs(t *testing.T) {
	first := memory(24)
	second, _ := Put(first, 8, 258)
	was := bytes.Clone(second)
	for _, a := range edges(len(second)) {
		for _, b := range edges(len(second)) {
			calls(second, a, b, 3)
			calls(first, a, b, 3)
		}
	}
	if !bytes.Equal(second, was) || !bytes.Equal(first, memory(24)) {
		t.Error("changed:", first, second)
	}
}
