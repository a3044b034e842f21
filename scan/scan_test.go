package scan

import (
	"fmt"
	"math"
	"slices"
	"strings"
	"testing"
)

const (
	least    = math.MinInt
	greatest = math.MaxInt
)

// blanks are all of them; their bytes are whole runes, so that package strings finds them in any text.
func blanks() string {
	var out strings.Builder
	for c := range 33 {
		out.WriteByte(byte(c))
	}
	return out.String()
}

// someBytes are those at which something turns, and some that are no whole rune.
const someBytes = "\x00\n\x1f !a\x7f\x80\xff"

// texts are all of at most four of these bytes, and some others.
func texts() []string {
	out := []string{""}
	for at := 0; len(out[at]) < 4; at++ {
		for k := range len(someBytes) {
			out = append(out, out[at]+someBytes[k:k+1])
		}
	}
	return append(out, otherTexts()...)
}

func otherTexts() []string {
	return []string{" ab c", ": sq dup * ;\n5 sq .", "( a -- b ) swap", ".\" hello\" cr", "\n\nab\n \ncd\n\n", "a\r\nb\r\n", "é ü\tñ", "\u00a0x\u2003y\u0085z\u2028", "\xc3 \xa9\n\xf0\x9f\x98", blanks(), blanks() + "x" + blanks()}
}

// places are those about 0 and the end, all in between, and the ends of all numbers.
func places(s string) []int {
	n := len(s)
	out := []int{least, least + 1, least + n, -1 << 32, greatest, greatest - 1, greatest - n, 1 << 32, 1<<32 + 1, 256, 256 + n}
	for k := -3; k <= n+3; k++ {
		out = append(out, k)
	}
	return out
}

// noBytes are numbers that are none, among them such as are a byte that texts have, or 32, in their low digits of two.
func noBytes() []int {
	return []int{least, least + 10, least + 32, -1 << 32, -256, -256 + 32, -256 + 'a', -128, -33, -32, -10, -1, 256, 256 + 10, 256 + 32, 256 + 33, 256 + 'a', 511, 512 + 32, 1 << 16, 1<<32 + 32, 1<<32 + 'a', '\u2028', greatest - 1, greatest}
}

func delims() []int {
	out := append(noBytes(), 1, 9, 13, '"', ')', 'A', 'b', 'c', 254)
	for k := range len(someBytes) {
		out = append(out, int(someBytes[k]))
	}
	return out
}

// told is all that a call answers, as a text.
func told(parts ...any) string { return fmt.Sprintf("%#v", parts) }

// ahead and behind are a text up to where it has come, and from there on, byte by byte.
func ahead(x Src) string {
	out := ""
	for k := range len(x.S) {
		if k < x.In {
			out += x.S[k : k+1]
		}
	}
	return out
}

func behind(x Src) string { return strings.TrimPrefix(x.S, ahead(x)) }

// come is x with what is left of it as long as this.
func come(x Src, left string) Src { return Src{x.S, len(x.S) - len(left)} }

// P6.1

func TestLeft(t *testing.T) {
	for _, x := range []struct {
		s    string
		in   int
		want string
	}{
		{"abc", 1, "bc"}, {"abc", 2, "c"}, {" a b ", 1, "a b "},
		// At 0, at the end, and beside them.
		{"abc", 0, "abc"}, {"abc", 3, ""}, {"abc", -1, "abc"}, {"abc", 4, ""}, {"", 0, ""}, {"", 1, ""}, {"", -1, ""},
		{"abc", least, "abc"}, {"abc", greatest, ""}, {"", least, ""}, {"", greatest, ""}, {"abc", 1 << 32, ""}, {"abc", -1<<32 + 1, "abc"},
		// Between the bytes of a rune.
		{"éa", 1, "\xa9a"}, {"\xff\x80\x00", 1, "\x80\x00"},
	} {
		if got := Left(Src{x.s, x.in}); got != x.want {
			t.Errorf("Left(%q, %d) = %q", x.s, x.in, got)
		}
	}
}

func TestSkip(t *testing.T) {
	for _, x := range []struct {
		s        string
		in, want int
	}{
		{"  ab", 0, 2}, {"ab  cd", 2, 4}, {"ab  cd", 3, 4}, {" \n a", -1, 3}, {"ab ", 2, 3},
		// No blank, though there are some farther on, or ahead.
		{"ab  cd", 0, 0}, {"ab  cd", 1, 1}, {"  ab", 2, 2}, {"  ab", 3, 3}, {"ab", 2, 2},
		{"", 0, 0}, {"   ", 0, 3}, {"   ", 1, 3}, {"   ", 3, 3}, {"\x00\n\x1f \t\r", 0, 6},
		{"!", 0, 0}, {"\x7f", 0, 0}, {"\x80", 0, 0}, {"\xff", 0, 0}, {"\xa0", 0, 0}, {"\u00a0", 0, 0}, {"\u2003", 0, 0}, {"\u0085", 0, 0},
		{"  a", -1, 2}, {"  a", least, 2}, {"  a", 4, 3}, {"  a", greatest, 3}, {"a", least, 0}, {"", least, 0}, {"", greatest, 0},
	} {
		if got := Skip(Src{x.s, x.in}); got != (Src{x.s, x.want}) {
			t.Errorf("Skip(%#v, %d) = %#v", x.s, x.in, got)
		}
	}
}

func TestWord(t *testing.T) {
	for _, x := range []struct {
		s    string
		in   int
		want string
		next int
	}{
		{" ab c", 0, "ab", 4}, {" ab c", 4, "c", 5}, {" ab c", 5, "", 5}, {" ab c", 1, "ab", 4}, {" ab c", 2, "b", 4}, {" ab c", 3, "c", 5},
		// At the end, with a blank behind it, with two, and without one.
		{"ab", 0, "ab", 2}, {"ab ", 0, "ab", 3}, {"ab  ", 0, "ab", 3}, {"ab\n", 0, "ab", 3}, {"a", 0, "a", 1}, {"a ", 0, "a", 2}, {"ab", 1, "b", 2}, {"ab", 2, "", 2},
		{"", 0, "", 0}, {" ", 0, "", 1}, {"   ", 0, "", 3}, {"   ", 2, "", 3}, {"ab   ", 3, "", 5},
		// Blanks are no more than 32; no other byte is one, nor any rune.
		{"a\x00b", 0, "a", 2}, {"a\nb", 0, "a", 2}, {"a\x1fb", 0, "a", 2}, {"a b", 0, "a", 2}, {"a!b", 0, "a!b", 3}, {"a\x7fb", 0, "a\x7fb", 3}, {"a\x80b", 0, "a\x80b", 3}, {"a\xffb", 0, "a\xffb", 3},
		{"\x00a", 0, "a", 2}, {"\na", 0, "a", 2}, {"\x1fa", 0, "a", 2}, {"!a", 0, "!a", 2}, {"\x7fa", 0, "\x7fa", 2}, {"\x80a ", 0, "\x80a", 3}, {"\xffa\n", 0, "\xffa", 3}, {"é\u00a0ü ñ", 0, "é\u00a0ü", 7},
		{"ab c", -1, "ab", 3}, {"ab c", least, "ab", 3}, {"ab c", 5, "", 4}, {"ab c", greatest, "", 4}, {"", least, "", 0}, {"", greatest, "", 0}, {"", 1, "", 0},
	} {
		if got := told(Word(Src{x.s, x.in})); got != told(x.want, Src{x.s, x.next}) {
			t.Errorf("Word(%q, %d) = %s", x.s, x.in, got)
		}
	}
}

// allWords are those that Word tells, one behind the other, up to the first that has no byte; and no more than a text can have, so that a fault does not go on for ever.
func allWords(s string) []string {
	var out []string
	w, x := Word(Src{S: s})
	for w != "" && len(out) <= len(s) {
		out = append(out, w)
		w, x = Word(x)
	}
	return out
}

func TestAllWordsOfATextInOrder(t *testing.T) {
	for _, s := range texts() {
		want := strings.FieldsFunc(s, func(r rune) bool { return r <= 32 })
		if got := allWords(s); !slices.Equal(got, want) {
			t.Errorf("the words of %q are %q, not %q", s, got, want)
		}
	}
}

func TestLeftSkipAndWordAtAllPlaces(t *testing.T) {
	for _, s := range texts() {
		for _, in := range places(s) {
			x := Src{s, in}
			left := behind(x)
			if got := Left(x); got != left {
				t.Fatalf("Left(%#v) = %#v, not %#v", x, got, left)
			}
			trimmed := strings.TrimLeft(left, blanks())
			if got := Skip(x); got != come(x, trimmed) {
				t.Fatalf("Skip(%#v) = %#v, not %#v", x, got, come(x, trimmed))
			}
			want := told(trimmed, come(x, ""))
			if at := strings.IndexAny(trimmed, blanks()); at >= 0 {
				want = told(trimmed[:at], come(x, trimmed[at+1:]))
			}
			if got := told(Word(x)); got != want {
				t.Fatalf("Word(%#v) = %s, not %s", x, got, want)
			}
		}
	}
}

// P6.2

func TestParse(t *testing.T) {
	for _, x := range []struct {
		s         string
		in, delim int
		want      string
		next      int
	}{
		{"ab)c", 0, ')', "ab", 3}, {"ab)c)d", 0, ')', "ab", 3}, {"ab)c)d", 3, ')', "c", 5}, {"ab)c)d", 5, ')', "d", 6}, {" a b) c", 0, ')', " a b", 5},
		// At the first byte, at the last one, and nowhere.
		{")ab", 0, ')', "", 1}, {"ab)c", 2, ')', "", 3}, {"ab)", 0, ')', "ab", 3}, {")", 0, ')', "", 1}, {"))", 0, ')', "", 1}, {"ab)", 3, ')', "", 3}, {"abc", 0, ')', "abc", 3}, {"a)bc", 2, ')', "bc", 4}, {"", 0, ')', "", 0},
		// Of 32 any blank ends it, and none ahead is passed.
		{"b c", 0, 32, "b", 2}, {"b\tc", 0, 32, "b", 2}, {"b\nc", 0, 32, "b", 2}, {"b\x00c", 0, 32, "b", 2}, {"b\x1fc", 0, 32, "b", 2}, {" b c", 0, 32, "", 1}, {"\nb c", 0, 32, "", 1}, {"b ", 0, 32, "b", 2}, {"b", 0, 32, "b", 1}, {"", 0, 32, "", 0},
		{"b!c", 0, 32, "b!c", 3}, {"b\x7f\x80\xff\xa0c", 0, 32, "b\x7f\x80\xff\xa0c", 6},
		// Any other blank ends it alone.
		{"a b\tc", 0, 9, "a b", 4}, {"a\tb\nc", 0, 10, "a\tb", 4}, {"a \n\x00b", 0, 0, "a \n", 4}, {"a \n\x1fb", 0, 31, "a \n", 4}, {"a b", 0, 10, "a b", 3}, {"a b!c", 0, 33, "a b", 4},
		{"a\x7fb", 0, 127, "a", 2}, {"a\x80b", 0, 128, "a", 2}, {"a\xffb", 0, 255, "a", 2}, {"aé", 0, 0xa9, "a\xc3", 3}, {"aé", 0, 0xc3, "a", 2}, {"aé", 0, 'é', "aé", 3},
		// What is no byte is nowhere.
		{"ab c", 0, -1, "ab c", 4}, {"ab\xff", 0, -1, "ab\xff", 3}, {"ab c", 0, 'b' + 256, "ab c", 4}, {"ab c", 0, 'b' - 256, "ab c", 4}, {"ab c", 0, 32 + 256, "ab c", 4}, {"ab c", 0, 32 - 256, "ab c", 4}, {"ab\x00c", 0, 256, "ab\x00c", 4}, {"ab\x00c", 0, -256, "ab\x00c", 4}, {"ab c", 0, 1<<32 + 32, "ab c", 4}, {"ab\x00c", 0, least, "ab\x00c", 4}, {"ab\xffc", 0, greatest, "ab\xffc", 4}, {"ab c", 2, greatest, " c", 4}, {"", 0, least, "", 0},
		{"ab)c", -1, ')', "ab", 3}, {"ab)c", least, ')', "ab", 3}, {"ab)c", 5, ')', "", 4}, {"ab)c", greatest, ')', "", 4}, {"ab c", least, 32, "ab", 3}, {"ab c", greatest, 32, "", 4}, {"", least, 32, "", 0}, {"", greatest, ')', "", 0}, {"ab", least, greatest, "ab", 2}, {"ab", greatest, least, "", 2},
	} {
		if got := told(Parse(Src{x.s, x.in}, x.delim)); got != told(x.want, Src{x.s, x.next}) {
			t.Errorf("Parse(%q, %d, %d) = %s", x.s, x.in, x.delim, got)
		}
	}
}

// endOf is where a delim is in what is left, or -1.
func endOf(left string, delim int) int {
	switch {
	case delim == 32:
		return strings.IndexAny(left, blanks())
	case delim < 0 || delim > 255:
		return -1
	}
	return strings.Index(left, string([]byte{byte(delim)}))
}

func TestParseAtAllPlaces(t *testing.T) {
	for _, s := range texts() {
		for _, in := range places(s) {
			x := Src{s, in}
			left := behind(x)
			for _, delim := range delims() {
				part, next := left, come(x, "")
				if at := endOf(left, delim); at >= 0 {
					part, next = left[:at], come(x, left[at+1:])
				}
				if p, y := Parse(x, delim); p != part || y != next {
					t.Fatalf("Parse(%#v, %d) = %#v, %#v, not %#v, %#v", x, delim, p, y, part, next)
				}
			}
		}
	}
}

func TestEveryByteEndsWhatItIsTheDelimOf(t *testing.T) {
	for c := range 256 {
		s := "ab" + string([]byte{byte(c)}) + "cd"
		for delim := -300; delim <= 600; delim++ {
			if delim >= 'a' && delim <= 'd' {
				continue
			}
			want := told(s, Src{s, 5})
			if delim == c || delim == 32 && c <= 32 {
				want = told("ab", Src{s, 3})
			}
			if got := told(Parse(Src{S: s}, delim)); got != want {
				t.Errorf("Parse(%q, %d) = %s, not %s", s, delim, got, want)
			}
		}
	}
}

// P6.3

func TestUpper(t *testing.T) {
	for _, x := range []struct{ s, want string }{
		{"dup", "DUP"}, {"DUP", "DUP"}, {"2dUp", "2DUP"}, {"um/mod", "UM/MOD"}, {"", ""}, {" a\nb ", " A\nB "},
		{"abcdefghijklmnopqrstuvwxyz", "ABCDEFGHIJKLMNOPQRSTUVWXYZ"}, {"ABCDEFGHIJKLMNOPQRSTUVWXYZ", "ABCDEFGHIJKLMNOPQRSTUVWXYZ"},
		// The bytes just ahead of a and A, and just behind z and Z.
		{"`az{", "`AZ{"}, {"@AZ[", "@AZ["}, {"`{@[", "`{@["},
		// No other letters, and no bytes that are no whole rune.
		{"aé\u00df\u00ffıſ\u01c6ж", "Aé\u00df\u00ffıſ\u01c6ж"}, {"a\x80\xe1\xfa\xffz", "A\x80\xe1\xfa\xffZ"}, {"\xc3a\xa9", "\xc3A\xa9"}, {"\x00a\x1f\x7f", "\x00A\x1f\x7f"},
	} {
		if got := Upper(x.s); got != x.want {
			t.Errorf("Upper(%q) = %q, not %q", x.s, got, x.want)
		}
	}
}

func TestUpperOfEveryByte(t *testing.T) {
	const small, great = "abcdefghijklmnopqrstuvwxyz", "ABCDEFGHIJKLMNOPQRSTUVWXYZ"
	for c := range 256 {
		s := string([]byte{byte(c)})
		want := s
		if at := strings.Index(small, s); at >= 0 {
			want = great[at : at+1]
		}
		if got := Upper(s); got != want {
			t.Errorf("Upper(%q) = %q", s, got)
		}
		if got := Upper("x" + s + "y"); got != "X"+want+"Y" {
			t.Errorf("Upper of x, %q, y = %q", s, got)
		}
	}
}

func TestLines(t *testing.T) {
	for _, x := range []struct {
		s    string
		want []string
	}{
		{"a\nb", []string{"a", "b"}}, {"ab cd\n  ef\ng", []string{"ab cd", "  ef", "g"}}, {"a", []string{"a"}}, {"a\n\nb", []string{"a", "", "b"}},
		{"", []string{""}}, {"\n", []string{"", ""}}, {"\n\n\n", []string{"", "", "", ""}}, {"\na", []string{"", "a"}}, {"a\n", []string{"a", ""}}, {"\na\n", []string{"", "a", ""}},
		// Byte 10 alone parts them.
		{"a\r\nb", []string{"a\r", "b"}}, {"a\rb\x00\x0b\x0c\x1f c", []string{"a\rb\x00\x0b\x0c\x1f c"}}, {"a\u0085b\u2028c\u010a", []string{"a\u0085b\u2028c\u010a"}}, {"\xff\n\x80\n\xc3", []string{"\xff", "\x80", "\xc3"}},
	} {
		if got := Lines(x.s); !slices.Equal(got, x.want) {
			t.Errorf("Lines(%q) = %q", x.s, got)
		}
	}
}

// lines are a text's parts, byte by byte.
func lines(s string) []string {
	out := []string{""}
	for k := range len(s) {
		if s[k] == 10 {
			out = append(out, "")
		} else {
			out[len(out)-1] += s[k : k+1]
		}
	}
	return out
}

func TestLinesOfAllTexts(t *testing.T) {
	for _, s := range texts() {
		got := Lines(s)
		if !slices.Equal(got, lines(s)) {
			t.Errorf("Lines(%q) = %q", s, got)
		}
		if strings.Join(got, "\n") != s || len(got) != strings.Count(s, "\n")+1 {
			t.Errorf("Lines(%q) = %q: not its parts, or not one more than it has bytes 10", s, got)
		}
	}
}

func TestLinesMayBeLeftEarlyAndRangedAgain(t *testing.T) {
	some := each("a\nb\n")
	for range 2 {
		var got []string
		for line := range some {
			got = append(got, line)
			if line == "b" {
				break
			}
		}
		if !slices.Equal(got, []string{"a", "b"}) {
			t.Errorf("up to b: %q", got)
		}
	}
	if got := slices.Collect(some); !slices.Equal(got, []string{"a", "b", ""}) {
		t.Errorf("all: %q", got)
	}
}

// P6.4

// goesOn: has y the text of x, and is it no less far, and not above the end?
func goesOn(x, y Src) bool {
	return y.S == x.S && y.In >= min(max(x.In, 0), len(x.S)) && y.In >= 0 && y.In <= len(x.S)
}

func TestInNeverFallsAndIsNeverAboveTheEnd(t *testing.T) {
	for _, s := range texts() {
		for _, in := range places(s) {
			x := Src{s, in}
			if y := Skip(x); !goesOn(x, y) {
				t.Errorf("Skip(%#v) = %#v", x, y)
			}
			if _, y := Word(x); !goesOn(x, y) {
				t.Errorf("Word(%#v) = %#v", x, y)
			}
			for _, delim := range delims() {
				if _, y := Parse(x, delim); !goesOn(x, y) {
					t.Errorf("Parse(%#v, %d) = %#v", x, delim, y)
				}
			}
		}
	}
}

// endsIt: is what is between what was told and what is left nothing, at the end, or one byte that is a delim?
func endsIt(between string, delim int, left string) bool {
	if between == "" {
		return left == ""
	}
	return len(between) == 1 && endOf(between, delim) == 0
}

func TestWhatIsToldWithWhatIsLeftIsTheText(t *testing.T) {
	for _, s := range texts() {
		for _, in := range places(s) {
			x := Src{s, in}
			if ahead(x)+Left(x) != s || ahead(Skip(x))+Left(Skip(x)) != s {
				t.Errorf("Left of %#v, or behind its blanks, is not the text", x)
			}
			w, y := Word(x)
			if strings.ContainsAny(w, blanks()) {
				t.Errorf("Word(%#v) = %#v: it has a blank", x, w)
			}
			if between, ok := strings.CutPrefix(ahead(y), ahead(Skip(x))+w); !ok || !endsIt(between, 32, Left(y)) {
				t.Errorf("Word(%#v) = %#v, %#v: not the text", x, w, y)
			}
			for _, delim := range delims() {
				p, y := Parse(x, delim)
				if endOf(p, delim) >= 0 {
					t.Errorf("Parse(%#v, %d) = %#v: it has a delim", x, delim, p)
				}
				if between, ok := strings.CutPrefix(ahead(y), ahead(x)+p); !ok || !endsIt(between, delim, Left(y)) {
					t.Errorf("Parse(%#v, %d) = %#v, %#v: not the text", x, delim, p, y)
				}
			}
		}
	}
}

// P1 and R4

func TestGreatTexts(t *testing.T) {
	const n = 1 << 20
	word, blank, empty := strings.Repeat("\xff", n), strings.Repeat("\x00", n), strings.Repeat("\n", n)
	if w, y := Word(Src{S: blank + word}); w != word || y.In != 2*n {
		t.Errorf("a word of %d bytes, at %d", len(w), y.In)
	}
	if w, y := Word(Src{S: blank}); w != "" || y.In != n {
		t.Errorf("a word of %d bytes, at %d", len(w), y.In)
	}
	if p, y := Parse(Src{S: word + blank}, 0); p != word || y.In != n+1 {
		t.Errorf("%d bytes, at %d", len(p), y.In)
	}
	if got := Lines(empty); len(got) != n+1 || slices.ContainsFunc(got, func(s string) bool { return s != "" }) {
		t.Errorf("%d lines", len(got))
	}
	if got := allWords(strings.Repeat("ab\t", n)); len(got) != n {
		t.Errorf("%d words", len(got))
	}
	if got := Upper(strings.Repeat("a\x80", n)); got != strings.Repeat("A\x80", n) {
		t.Errorf("Upper: %d bytes", len(got))
	}
}

func TestSrcsAreEqualJustIfTheirFieldsAre(t *testing.T) {
	x := Src{"ab", 1}
	if x.S != "ab" || x.In != 1 || x != (Src{S: "a" + "b", In: 1}) || x == (Src{"ab", 2}) || x == (Src{"ac", 1}) {
		t.Error(x)
	}
}
