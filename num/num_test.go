package num

import (
	"fmt"
	"math"
	"math/big"
	"regexp"
	"slices"
	"strings"
	"testing"

	"tenterhook/api"
)

const (
	least = math.MinInt
	most  = math.MaxInt
)

// bases are all that there are.
func bases() []int {
	var out []int
	for b := 2; b <= 36; b++ {
		out = append(out, b)
	}
	return out
}

// noBases are numbers that are none, among them such as are one in their low digits of two.
func noBases() []int {
	return []int{least, least + 1, least + 10, -1 << 32, -36, -16, -10, -2, -1, 0, 1, 37, 38, 64, 128, 255, 256, 256 + 10, 1<<32 + 10, 1 << 62, most - 1, most}
}

func isOne(base int) bool { return slices.Contains(bases(), base) }

// cells are cells at which something turns: 0, the signs, the ends, powers of two and of ten, and some in between.
func cells() []int {
	out := []int{0, least, least + 1, least + 2}
	for _, n := range []int{1, 2, 7, 9, 10, 35, 36, 37, 99, 100, 255, 256, 1<<31 - 1, 1 << 32, 1<<62 + 1, 1000000000000000000, 999999999999999999, 6148914691236517205, most - 1, most} {
		out = append(out, n, -n)
	}
	return out
}

// doubles are all doubles of two of these cells, and so -2^127, 2^127 - 1, and those beside 2^64 and -2^64.
func doubles() []api.Dbl {
	var out []api.Dbl
	for _, hi := range cells() {
		for _, lo := range cells() {
			out = append(out, d(lo, hi))
		}
	}
	return out
}

func d(lo, hi int) api.Dbl { return api.Dbl{Lo: lo, Hi: hi} }

func power(n uint) *big.Int { return new(big.Int).Lsh(big.NewInt(1), n) }

// signed, unsigned and double are the numbers of cells and doubles, as the document says them.

func signed(n int) *big.Int { return big.NewInt(int64(n)) }

func unsigned(n int) *big.Int { return new(big.Int).SetUint64(uint64(n)) }

func double(a api.Dbl) *big.Int {
	b := new(big.Int).Mul(signed(a.Hi), power(64))
	return b.Add(b, unsigned(a.Lo))
}

// cellOf is a whole number gone round as a cell.
func cellOf(b *big.Int) int { return int(new(big.Int).Mod(b, power(64)).Uint64()) }

// told is all that a call answers, as a text: so a list without elements is the same, nil or not.
func told(parts ...any) string { return fmt.Sprintln(parts...) }

var nothing = told([]int(nil), false)

// P5.1

// digitSigns are the digits of the base 36, and letters the same as the last of them.
const (
	digitSigns = "0123456789ABCDEFGHIJKLMNOPQRSTUVWXYZ"
	smallSigns = "0123456789abcdefghijklmnopqrstuvwxyz"
)

func TestDigit(t *testing.T) {
	for _, x := range []struct {
		c, base, v int
		ok         bool
	}{
		{'0', 10, 0, true}, {'9', 10, 9, true}, {'A', 16, 10, true}, {'f', 16, 15, true}, {'F', 16, 15, true}, {'Z', 36, 35, true}, {'z', 36, 35, true},
		// Just the base, and the one below it.
		{'1', 2, 1, true}, {'2', 2, 0, false}, {'9', 9, 0, false}, {'A', 10, 0, false}, {'a', 10, 0, false}, {'a', 11, 10, true}, {'G', 16, 0, false}, {'g', 16, 0, false}, {'y', 35, 34, true}, {'z', 35, 0, false}, {'Z', 35, 0, false},
		// Bases that are none.
		{'0', 1, 0, false}, {'0', 0, 0, false}, {'0', -10, 0, false}, {'0', 37, 0, false}, {'1', least, 0, false}, {'1', most, 0, false}, {'z', 37, 0, false},
		// Bytes beside the digits, and numbers that are no byte.
		{'/', 36, 0, false}, {':', 36, 0, false}, {'@', 36, 0, false}, {'[', 36, 0, false}, {'`', 36, 0, false}, {'{', 36, 0, false}, {' ', 36, 0, false}, {'-', 36, 0, false}, {'.', 36, 0, false}, {0, 36, 0, false}, {5, 36, 0, false}, {'0' + 128, 36, 0, false}, {255, 36, 0, false},
		{-1, 36, 0, false}, {-'5', 36, 0, false}, {'5' + 256, 36, 0, false}, {'5' - 256, 36, 0, false}, {'5' + 1<<32, 36, 0, false}, {least + '5', 36, 0, false}, {least, 36, 0, false}, {most, 36, 0, false}, {'\u0663', 36, 0, false}, {'\uff21', 36, 0, false}, {'\u017f', 36, 0, false}, {'\u212a', 36, 0, false}, {'\u0130', 36, 0, false},
	} {
		if v, ok := Digit(x.c, x.base); v != x.v || ok != x.ok {
			t.Errorf("Digit(%d, %d) = %d, %v", x.c, x.base, v, ok)
		}
	}
}

// digit is a digit's value, by its place among the signs.
func digit(c, base int) (int, bool) {
	if c < 0 || c > 127 || !isOne(base) {
		return 0, false
	}
	v := max(strings.IndexByte(digitSigns, byte(c)), strings.IndexByte(smallSigns, byte(c)))
	if v < 0 || v >= base {
		return 0, false
	}
	return v, true
}

func TestDigitOfAllBytesAtAllBases(t *testing.T) {
	for _, base := range append(bases(), noBases()...) {
		found := 0
		for c := -300; c <= 600; c++ {
			v, ok := Digit(c, base)
			if got, want := told(v, ok), told(digit(c, base)); got != want {
				t.Errorf("Digit(%d, %d) = %s, not %s", c, base, got, want)
			}
			if ok {
				found++
			}
		}
		want := 0
		if isOne(base) {
			want = base + max(0, base-10)
		}
		if found != want {
			t.Errorf("%d digits of the base %d, not %d", found, base, want)
		}
	}
}

func TestSign(t *testing.T) {
	for v := range 36 {
		if got := Sign(v); got != string(digitSigns[v]) {
			t.Errorf("Sign(%d) = %q", v, got)
		}
	}
	for _, x := range []struct {
		v    int
		want string
	}{{0, "0"}, {9, "9"}, {10, "A"}, {35, "Z"}} {
		if got := Sign(x.v); got != x.want {
			t.Errorf("Sign(%d) = %q", x.v, got)
		}
	}
	for _, v := range []int{-1, -2, -35, -36, 36, 37, 48, 65, 255, 256, 256 + 5, 1 << 32, 1<<32 + 5, least, least + 5, most} {
		if got := Sign(v); got != "" {
			t.Errorf("Sign(%d) = %q", v, got)
		}
	}
}

// P5.2

// parsing is a text and a base, and the cells that come of it; without cells nothing does.
type parsing struct {
	s     string
	base  int
	cells []int
}

func testParse(t *testing.T, all []parsing) {
	t.Helper()
	for _, x := range all {
		if got := told(Parse(x.s, x.base)); got != told(x.cells, x.cells != nil) {
			t.Errorf("Parse(%q, %d) = %s", x.s, x.base, got)
		}
	}
}

func TestParseOfDigits(t *testing.T) {
	testParse(t, []parsing{
		{"0", 10, []int{0}}, {"7", 10, []int{7}}, {"255", 10, []int{255}}, {"-255", 10, []int{-255}}, {"0007", 10, []int{7}}, {"-0", 10, []int{0}}, {"00", 2, []int{0}},
		{"FF", 16, []int{255}}, {"ff", 16, []int{255}}, {"fF", 16, []int{255}}, {"-Ff", 16, []int{-255}}, {"101", 2, []int{5}}, {"-101", 2, []int{-5}},
		{"zz", 36, []int{1295}}, {"ZZ", 36, []int{1295}}, {"Hello", 36, []int{29234652}}, {"hELLO", 36, []int{29234652}}, {"10", 36, []int{36}}, {"10", 2, []int{2}},
		// Just the base, and the one below it.
		{"1", 2, []int{1}}, {"2", 2, nil}, {"12", 2, nil}, {"21", 2, nil}, {"9", 9, nil}, {"8", 9, []int{8}}, {"A", 10, nil}, {"1A", 10, nil}, {"A1", 10, nil}, {"g", 16, nil}, {"fg", 16, nil}, {"z", 35, nil}, {"y", 35, []int{34}},
		// A sign is ahead of all digits, once.
		{"1-", 10, nil}, {"1-2", 10, nil}, {"--1", 10, nil}, {"+1", 10, nil}, {"-+1", 10, nil}, {"-", 10, nil}, {"-", 36, nil},
		{"", 10, nil}, {"", 2, nil}, {"", 36, nil}, {" ", 10, nil}, {" 1", 10, nil}, {"1 ", 10, nil}, {"1 2", 10, nil}, {"1_2", 10, nil}, {"1\n", 10, nil}, {"1\x00", 10, nil}, {"\x00", 10, nil},
		{"0x10", 16, nil}, {"0x10", 36, []int{33*36*36 + 36}}, {"1e5", 10, nil}, {"1,000", 10, nil}, {"1:0", 36, nil}, {"@", 36, nil}, {"[", 36, nil}, {"`", 36, nil}, {"{", 36, nil}, {"/", 36, nil},
	})
}

func TestParseOfAByte(t *testing.T) {
	testParse(t, []parsing{
		{"'a'", 10, []int{97}}, {"'A'", 2, []int{65}}, {"'0'", 36, []int{48}}, {"' '", 10, []int{32}}, {"'''", 10, []int{39}}, {"'-'", 10, []int{45}}, {"'.'", 10, []int{46}}, {"'$'", 10, []int{36}}, {"'\x00'", 10, []int{0}}, {"'\x7f'", 10, []int{127}},
		// Bytes above 127 are no whole runes, but bytes.
		{"'\x80'", 10, []int{128}}, {"'\xc3'", 10, []int{195}}, {"'\xff'", 10, []int{255}},
		{"'é'", 10, nil}, {"'€'", 10, nil}, {"'ab'", 10, nil}, {"'5'.", 10, nil}, {"-'5'", 10, nil}, {"$'5'", 10, nil}, {"'5'5", 10, nil}, {"5'5'", 10, nil},
		{"'", 10, nil}, {"''", 10, nil}, {"''''", 10, nil}, {"'a", 10, nil}, {"'ab", 10, nil}, {"ab'", 10, nil}, {"a'", 10, nil}, {"'é", 10, nil}, {"é'", 10, nil}, {"\"a\"", 10, nil}, {"`a`", 10, nil}, {"'a\"", 10, nil}, {"a'b", 10, nil},
		{"1'2", 10, nil}, {"'12", 10, nil}, {"12'", 10, nil},
	})
	for _, base := range append(bases(), noBases()...) {
		for c := range 256 {
			want := nothing
			if isOne(base) {
				want = told([]int{c}, true)
			}
			s := "'" + string([]byte{byte(c)}) + "'"
			if got := told(Parse(s, base)); got != want {
				t.Errorf("Parse(%q, %d) = %s", s, base, got)
			}
		}
	}
}

func TestParseBehindAMark(t *testing.T) {
	testParse(t, []parsing{
		{"#10", 10, []int{10}}, {"$10", 10, []int{16}}, {"%10", 10, []int{2}}, {"#-10", 16, []int{-10}}, {"$-10", 16, []int{-16}}, {"%-10", 16, []int{-2}},
		{"$ff", 10, []int{255}}, {"$fF", 2, []int{255}}, {"$-FF.", 10, []int{-255, -1}}, {"#99", 2, []int{99}}, {"%11", 36, []int{3}}, {"$0", 10, []int{0}}, {"$-0", 10, []int{0}},
		// Of the mark's base, not of the one handed in.
		{"#A", 16, nil}, {"#a", 36, nil}, {"$g", 36, nil}, {"%2", 10, nil}, {"%12", 36, nil}, {"#9", 8, []int{9}}, {"$f", 8, []int{15}}, {"%1", 2, []int{1}},
		// "-" comes behind the mark.
		{"-#10", 10, nil}, {"-$FF", 16, nil}, {"-%1", 2, nil}, {"-$FF", 10, nil}, {"-$-FF", 16, nil}, {"$--1", 16, nil}, {"$-", 16, nil}, {"#-", 10, nil}, {"%-", 2, nil},
		// One mark, and something behind it.
		{"#", 10, nil}, {"$", 10, nil}, {"%", 10, nil}, {"$", 36, nil}, {"$$1", 16, nil}, {"##1", 10, nil}, {"%%1", 2, nil}, {"#$1", 10, nil}, {"$%1", 10, nil}, {"%#1", 10, nil}, {"$-#1", 10, nil}, {"$-$1", 10, nil},
		{"1$", 16, nil}, {"1#", 10, nil}, {"1%", 2, nil}, {"1$1", 16, nil}, {"$1$", 16, nil}, {"&1", 10, nil}, {"!1", 10, nil}, {"\"1", 10, nil}, {"@1", 10, nil},
		{"$ 1", 10, nil}, {"$+1", 10, nil}, {"$.", 10, nil}, {"$-.", 10, nil}, {"#.", 10, nil}, {"%-.", 10, nil},
	})
	for _, base := range append(bases(), noBases()...) {
		testParse(t, []parsing{
			{"#10", base, []int{10}}, {"#-19", base, []int{-19}}, {"$1f", base, []int{31}}, {"$-1F", base, []int{-31}}, {"%110", base, []int{6}}, {"%-110.", base, []int{-6, -1}}, {"$9.", base, []int{9, 0}},
			{"#1A", base, nil}, {"$1G", base, nil}, {"%112", base, nil}, {"#", base, nil}, {"$-", base, nil}, {"%.", base, nil}, {"$", base, nil},
		})
	}
}

func TestParseOfDoubles(t *testing.T) {
	testParse(t, []parsing{
		{"5.", 10, []int{5, 0}}, {"-5.", 10, []int{-5, -1}}, {"0.", 10, []int{0, 0}}, {"-0.", 10, []int{0, 0}}, {"ff.", 16, []int{255, 0}}, {"-1.", 2, []int{-1, -1}}, {"#12.", 2, []int{12, 0}}, {"%-1.", 2, []int{-1, -1}},
		{"18446744073709551615.", 10, []int{-1, 0}}, {"18446744073709551616.", 10, []int{0, 1}}, {"-18446744073709551615.", 10, []int{1, -1}}, {"-18446744073709551616.", 10, []int{0, -1}}, {"9223372036854775808.", 10, []int{least, 0}}, {"-9223372036854775808.", 10, []int{least, -1}},
		{"$1FFFFFFFFFFFFFFFF.", 10, []int{-1, 1}}, {"$123456789abcdef00fedcba987654321.", 10, []int{0x0fedcba987654321, 0x123456789abcdef0}},
		// The ends of doubles, where they go round.
		{"170141183460469231731687303715884105727.", 10, []int{-1, most}}, {"170141183460469231731687303715884105728.", 10, []int{0, least}}, {"-170141183460469231731687303715884105728.", 10, []int{0, least}}, {"-170141183460469231731687303715884105727.", 10, []int{1, least}}, {"-170141183460469231731687303715884105729.", 10, []int{-1, most}},
		{"340282366920938463463374607431768211455.", 10, []int{-1, -1}}, {"340282366920938463463374607431768211456.", 10, []int{0, 0}}, {"340282366920938463463374607431768211457.", 10, []int{1, 0}}, {"-340282366920938463463374607431768211455.", 10, []int{1, 0}},
		// One ".", at the end.
		{".", 10, nil}, {"..", 10, nil}, {"-.", 10, nil}, {".-", 10, nil}, {"5..", 10, nil}, {".5", 10, nil}, {"1.5", 10, nil}, {"1.5.", 10, nil}, {".5.", 10, nil}, {"-.5", 10, nil}, {"$.5", 10, nil}, {".$5", 10, nil}, {"5.-", 10, nil}, {"5.$", 10, nil}, {"5,", 10, nil}, {"5. ", 10, nil}, {"2.", 2, nil},
	})
}

func TestParseGoesRound(t *testing.T) {
	testParse(t, []parsing{
		{"9223372036854775807", 10, []int{most}}, {"9223372036854775808", 10, []int{least}}, {"-9223372036854775808", 10, []int{least}}, {"-9223372036854775809", 10, []int{most}}, {"18446744073709551615", 10, []int{-1}}, {"-18446744073709551615", 10, []int{1}}, {"18446744073709551616", 10, []int{0}}, {"18446744073709551617", 10, []int{1}}, {"-18446744073709551617", 10, []int{-1}},
		{"FFFFFFFFFFFFFFFF", 16, []int{-1}}, {"8000000000000000", 16, []int{least}}, {"10000000000000005", 16, []int{5}}, {"-10000000000000005", 16, []int{-5}}, {"100000000000000000000000000000007", 16, []int{7}}, {"-100000000000000000000000000000007.", 16, []int{-7, -1}},
		{strings.Repeat("1", 64), 2, []int{-1}}, {strings.Repeat("1", 65), 2, []int{-1}}, {"1" + strings.Repeat("0", 64), 2, []int{0}}, {"1" + strings.Repeat("0", 64) + ".", 2, []int{0, 1}}, {"1" + strings.Repeat("0", 127) + ".", 2, []int{0, least}}, {"1" + strings.Repeat("0", 128) + ".", 2, []int{0, 0}}, {strings.Repeat("1", 128) + ".", 2, []int{-1, -1}}, {strings.Repeat("1", 129) + ".", 2, []int{-1, -1}}, {strings.Repeat("1", 127) + ".", 2, []int{-1, most}},
		{"1" + strings.Repeat("0", 126) + "11.", 2, []int{3, 0}}, {"%-1" + strings.Repeat("0", 130) + "11.", 10, []int{-3, -1}}, {strings.Repeat("0", 300) + "5.", 10, []int{5, 0}},
	})
	for _, base := range bases() {
		for n := 1; n <= 300; n += 7 {
			for _, s := range []string{Sign(base - 1), "1", "10", Sign(base/2) + Sign(base-1) + "1"} {
				s = strings.Repeat(s, n)
				for _, s := range []string{s, "-" + s, s + ".", "-" + s + "."} {
					if got, want := told(Parse(s, base)), parse(s, base); got != want {
						t.Fatalf("Parse(%q, %d) = %s, not %s", s, base, got, want)
					}
				}
			}
		}
	}
}

func TestParseOfBytesThatAreNoDigits(t *testing.T) {
	for _, more := range []string{"é", "€", "\U0001d7d9", "\u0661", "\uff11", "\uff21", "\u017f", "\u212a", "\u0130", "\u2212", "\u00a0", "\ufffd", "\xff", "\x80", "\xc3", "\xe2\x82", "\xf0\x9f\x98", "\xed\xa0\x80", "\xc0\xb1", "\xb1"} {
		for _, base := range bases() {
			testParse(t, []parsing{{more, base, nil}, {"1" + more, base, nil}, {more + "1", base, nil}, {"-" + more, base, nil}, {more + ".", base, nil}, {"$" + more, base, nil}, {"1" + more + "1.", base, nil}, {more + "-1", base, nil}})
		}
	}
	for c := range 256 {
		s := "1" + string([]byte{byte(c)}) + "1"
		if got, want := told(Parse(s, 36)), parse(s, 36); got != want {
			t.Errorf("Parse(%q, 36) = %s, not %s", s, got, want)
		}
	}
}

func TestParseByNoBase(t *testing.T) {
	for _, base := range noBases() {
		testParse(t, []parsing{{"0", base, nil}, {"1", base, nil}, {"-1", base, nil}, {"1.", base, nil}, {"z", base, nil}, {"", base, nil}, {"-", base, nil}, {".", base, nil}, {"'1'", base, nil}, {"'''", base, nil}, {"''", base, nil}})
	}
}

var form = regexp.MustCompile(`^([#$%]?)(-?)([0-9A-Za-z]+)(\.?)$`)

// parse is what Parse tells, of whole numbers.
func parse(s string, base int) string {
	if len(s) == 3 && s[0] == '\'' && s[2] == '\'' {
		if !isOne(base) {
			return nothing
		}
		return told([]int{int(s[1])}, true)
	}
	m := form.FindStringSubmatch(s)
	if m == nil {
		return nothing
	}
	if b, ok := map[string]int{"#": 10, "$": 16, "%": 2}[m[1]]; ok {
		base = b
	}
	if !isOne(base) {
		return nothing
	}
	n, ok := new(big.Int).SetString(m[2]+m[3], base)
	if !ok {
		return nothing
	}
	cells := []int{cellOf(n), cellOf(new(big.Int).Rsh(n, 64))}
	if m[4] == "" {
		cells = cells[:1]
	}
	return told(cells, true)
}

// shortTexts are all texts of at most four of these parts.
func shortTexts() []string {
	parts := []string{"0", "1", "9", "a", "Z", "'", "#", "$", "%", "-", ".", "é", "\xff"}
	out := []string{""}
	longest := out
	for range 4 {
		var longer []string
		for _, s := range longest {
			for _, p := range parts {
				longer = append(longer, s+p)
			}
		}
		out = append(out, longer...)
		longest = longer
	}
	return out
}

func TestParseOfAllShortTexts(t *testing.T) {
	found := 0
	for _, s := range shortTexts() {
		for _, base := range []int{least, -2, 0, 1, 2, 10, 16, 35, 36, 37, most} {
			got, want := told(Parse(s, base)), parse(s, base)
			if got != want {
				t.Fatalf("Parse(%q, %d) = %s, not %s", s, base, got, want)
			}
			if got != nothing {
				found++
			}
		}
	}
	if found < 4000 {
		t.Error("too few numbers:", found)
	}
}

// P5.3

func TestTextAndUText(t *testing.T) {
	for _, x := range []struct {
		n, base       int
		text, without string
	}{
		{0, 10, "0", "0"}, {0, 2, "0", "0"}, {0, 36, "0", "0"}, {5, 10, "5", "5"}, {255, 10, "255", "255"}, {255, 16, "FF", "FF"}, {255, 2, "11111111", "11111111"}, {1295, 36, "ZZ", "ZZ"}, {100, 10, "100", "100"},
		// Just the base, and the one below it.
		{2, 2, "10", "10"}, {1, 2, "1", "1"}, {36, 36, "10", "10"}, {35, 36, "Z", "Z"}, {10, 10, "10", "10"}, {9, 10, "9", "9"}, {10, 11, "A", "A"},
		{-1, 10, "-1", "18446744073709551615"}, {-255, 16, "-FF", "FFFFFFFFFFFFFF01"}, {-1, 2, "-1", strings.Repeat("1", 64)}, {-1, 36, "-1", "3W5E11264SGSF"}, {-36, 36, "-10", "3W5E11264SGRG"},
		{most, 10, "9223372036854775807", "9223372036854775807"}, {least, 10, "-9223372036854775808", "9223372036854775808"}, {least + 1, 10, "-9223372036854775807", "9223372036854775809"},
		{most, 16, "7FFFFFFFFFFFFFFF", "7FFFFFFFFFFFFFFF"}, {least, 16, "-8000000000000000", "8000000000000000"}, {most, 2, strings.Repeat("1", 63), strings.Repeat("1", 63)}, {least, 2, "-1" + strings.Repeat("0", 63), "1" + strings.Repeat("0", 63)}, {least, 36, "-1Y2P0IJ32E8E8", "1Y2P0IJ32E8E8"},
		{0, 1, "", ""}, {5, 1, "", ""}, {-5, 1, "", ""}, {5, 37, "", ""}, {-5, 37, "", ""}, {5, 0, "", ""}, {5, -10, "", ""}, {-5, -10, "", ""}, {least, least, "", ""}, {most, most, "", ""},
	} {
		if got := Text(x.n, x.base); got != x.text {
			t.Errorf("Text(%d, %d) = %q", x.n, x.base, got)
		}
		if got := UText(x.n, x.base); got != x.without {
			t.Errorf("UText(%d, %d) = %q", x.n, x.base, got)
		}
	}
}

func TestDText(t *testing.T) {
	for _, x := range []struct {
		d    api.Dbl
		base int
		want string
	}{
		{d(0, 0), 10, "0"}, {d(0, 0), 2, "0"}, {d(0, 0), 36, "0"}, {d(255, 0), 16, "FF"}, {d(-255, -1), 16, "-FF"}, {d(-1, -1), 10, "-1"},
		{d(-1, 0), 10, "18446744073709551615"}, {d(0, 1), 10, "18446744073709551616"}, {d(0, -1), 10, "-18446744073709551616"}, {d(1, -1), 10, "-18446744073709551615"}, {d(least, 0), 10, "9223372036854775808"}, {d(least, -1), 10, "-9223372036854775808"}, {d(0, 1), 16, "10000000000000000"}, {d(5, 1), 16, "10000000000000005"},
		{d(-1, most), 10, "170141183460469231731687303715884105727"}, {d(0, least), 10, "-170141183460469231731687303715884105728"}, {d(1, least), 10, "-170141183460469231731687303715884105727"},
		{d(-1, most), 16, "7" + strings.Repeat("F", 31)}, {d(0, least), 16, "-8" + strings.Repeat("0", 31)}, {d(-1, most), 2, strings.Repeat("1", 127)}, {d(0, least), 2, "-1" + strings.Repeat("0", 127)},
		{d(0, 0), 1, ""}, {d(5, 0), 1, ""}, {d(-5, -1), 1, ""}, {d(5, 0), 37, ""}, {d(-5, -1), 37, ""}, {d(0, least), 0, ""}, {d(0, least), -10, ""}, {d(0, least), least, ""}, {d(-1, most), most, ""},
	} {
		if got := DText(x.d, x.base); got != x.want {
			t.Errorf("DText(%d, %d) = %q", x.d, x.base, got)
		}
	}
}

func TestTextsAreThoseOfWholeNumbers(t *testing.T) {
	of := func(b *big.Int, base int) string { return strings.ToUpper(b.Text(base)) }
	for _, base := range bases() {
		for _, n := range cells() {
			if got, want := Text(n, base), of(signed(n), base); got != want {
				t.Errorf("Text(%d, %d) = %q, not %q", n, base, got, want)
			}
			if got, want := UText(n, base), of(unsigned(n), base); got != want {
				t.Errorf("UText(%d, %d) = %q, not %q", n, base, got, want)
			}
		}
		for _, a := range doubles() {
			if got, want := DText(a, base), of(double(a), base); got != want {
				t.Fatalf("DText(%d, %d) = %q, not %q", a, base, got, want)
			}
		}
	}
	for _, base := range noBases() {
		for _, n := range cells() {
			if got := Text(n, base) + UText(n, base) + DText(d(n, n), base); got != "" {
				t.Errorf("of %d, by %d: %q", n, base, got)
			}
		}
	}
}

// P5.4

func TestWhatIsToldIsParsedToTheSame(t *testing.T) {
	for _, base := range bases() {
		for _, n := range cells() {
			for _, s := range []string{Text(n, base), UText(n, base), strings.ToLower(Text(n, base))} {
				if got := told(Parse(s, base)); got != told([]int{n}, true) {
					t.Errorf("Parse(%q, %d) = %s, not %d", s, base, got, n)
				}
			}
		}
		for _, a := range doubles() {
			s := DText(a, base)
			if got := told(Parse(s+".", base)); got != told([]int{a.Lo, a.Hi}, true) {
				t.Fatalf("Parse(%q, %d) = %s, not %d", s+".", base, got, a)
			}
			if got := told(Parse(s, base)); got != told([]int{a.Lo}, true) {
				t.Fatalf("Parse(%q, %d) = %s, not %d", s, base, got, a.Lo)
			}
		}
		for v := range base {
			if got := told(Digit(int(Sign(v)[0]), base)); got != told(v, true) {
				t.Errorf("Digit of the sign of %d, by %d: %s", v, base, got)
			}
		}
	}
}

func TestWhatIsToldIsParsedBehindAMark(t *testing.T) {
	for mark, base := range map[string]int{"#": 10, "$": 16, "%": 2} {
		for _, n := range cells() {
			for _, other := range []int{least, 0, 1, 2, 10, 16, 36, 37, most} {
				if got := told(Parse(mark+Text(n, base), other)); got != told([]int{n}, true) {
					t.Errorf("Parse(%q, %d) = %s", mark+Text(n, base), other, got)
				}
			}
		}
	}
}

// P1

func TestNoCallPanics(t *testing.T) {
	numbers := append(append(cells(), noBases()...), bases()...)
	for _, a := range numbers {
		Sign(a)
		for _, b := range numbers {
			Digit(a, b)
			Text(a, b)
			UText(a, b)
			DText(d(a, b), a)
			DText(d(a, a), b)
		}
	}
	long := strings.Repeat("9", 1<<16)
	for _, base := range numbers {
		for _, s := range []string{"", "-", ".", "'", "''", "'''", "#", "$", "%", "$-", "-.", "$-.", "\xff", "\xff\xff\xff", "'\xff'", "\x00", "$\xff", "-\xff", "\xff.", long, "-" + long + ".", "$" + long, long + "é", strings.Repeat("-", 1<<16), strings.Repeat(".", 1<<16), strings.Repeat("'", 1<<16), strings.Repeat("\xff", 1<<16)} {
			if cells, ok := Parse(s, base); !ok && len(cells) != 0 {
				t.Errorf("Parse of %d bytes by %d: false, and %d", len(s), base, cells)
			}
		}
	}
}

// Answers are new memory: what is done to one is not seen in another one.
func TestAnswersAreApart(t *testing.T) {
	for _, s := range []string{"5", "5.", "'5'", "$5", "-5."} {
		first, _ := Parse(s, 10)
		before := slices.Clone(first)
		for k := range first {
			first[k] = 99
		}
		if second, ok := Parse(s, 10); !ok || !slices.Equal(second, before) {
			t.Errorf("Parse(%q, 10) = %d, %v", s, second, ok)
		}
	}
}
