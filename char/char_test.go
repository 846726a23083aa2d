package char

import (
	"math"
	"slices"
	"strings"
	"testing"

	"tympan/api"
)

const least, most = math.MinInt, math.MaxInt

// blanks and specials are the bytes that P5.1 lists; they are written as numbers and not as the program writes them.
func blanks() []byte   { return []byte{0, 9, 10, 12, 13, 32} }
func specials() []byte { return []byte{37, 40, 41, 47, 60, 62, 91, 93, 123, 125} }

// kind is Kind as P5.1 states it.
func kind(c byte) int {
	switch {
	case slices.Contains(blanks(), c):
		return api.CBlank
	case slices.Contains(specials(), c):
		return api.CSpecial
	}
	return api.CRegular
}

// everyByte returns a string of all bytes, in order.
func everyByte() string {
	var b []byte
	for c := range 256 {
		b = append(b, byte(c))
	}
	return string(b)
}

// P5.1
func TestKindOfEveryByte(t *testing.T) {
	counts := map[int]int{}
	for i := range 256 {
		c := byte(i)
		got := Kind(c)
		counts[got]++
		if want := kind(c); got != want {
			t.Errorf("Kind(%d) = %d, want %d", c, got, want)
		}
	}
	if counts[api.CBlank] != 6 || counts[api.CSpecial] != 10 || counts[api.CRegular] != 240 {
		t.Errorf("bytes of each kind: %v; want 6 blanks, 10 specials and 240 regular ones", counts)
	}
}

// P5.1: bytes that other languages count as blanks or as special, and bytes next to those of the two classes.
func TestKindRows(t *testing.T) {
	for _, row := range []struct {
		bytes string
		want  int
	}{
		{"\x00\t\n\f\r ", api.CBlank},
		{"()<>[]{}/%", api.CSpecial},
		{"\x01\b\v\x0e\x1f!", api.CRegular},
		{"$&'*.0;=?Z\\^z|~", api.CRegular},
		{"+-#_,:@`\"\x7f", api.CRegular},
		{"\x80\x85\xa0\xc2\xff", api.CRegular},
	} {
		for i := range len(row.bytes) {
			if got := Kind(row.bytes[i]); got != row.want {
				t.Errorf("Kind(%q) = %d, want %d", row.bytes[i], got, row.want)
			}
		}
	}
}

// P5.2
func TestValueOfEveryByte(t *testing.T) {
	want := map[byte]int{}
	for _, digits := range []string{"0123456789abcdefghijklmnopqrstuvwxyz", "0123456789ABCDEFGHIJKLMNOPQRSTUVWXYZ"} {
		for i := range len(digits) {
			want[digits[i]] = i
		}
	}
	for i := range 256 {
		c := byte(i)
		value, digit := want[c]
		if !digit {
			value = -1
		}
		if got := Value(c); got != value {
			t.Errorf("Value(%d) = %d, want %d", c, got, value)
		}
	}
}

// P5.2: the ends of each range, the bytes next to them, and bytes of 128 and above.
func TestValueRows(t *testing.T) {
	for _, row := range []struct {
		c    byte
		want int
	}{
		{'0' - 1, -1}, {'0', 0}, {'1', 1}, {'8', 8}, {'9', 9}, {'9' + 1, -1},
		{'a' - 1, -1}, {'a', 10}, {'f', 15}, {'y', 34}, {'z', 35}, {'z' + 1, -1},
		{'A' - 1, -1}, {'A', 10}, {'F', 15}, {'Y', 34}, {'Z', 35}, {'Z' + 1, -1},
		{0, -1}, {' ', -1}, {'#', -1}, {'-', -1}, {'.', -1}, {127, -1},
		{'0' + 128, -1}, {'a' + 128, -1}, {'A' + 128, -1}, {255, -1},
	} {
		if got := Value(row.c); got != row.want {
			t.Errorf("Value(%d) = %d, want %d", row.c, got, row.want)
		}
	}
}

// P5.3
func TestRegularRows(t *testing.T) {
	for _, row := range []struct {
		s        string
		at, want int
	}{
		{"ab cd", 0, 2}, {"ab cd", 1, 1}, {"ab cd", 2, 0}, {"ab cd", 3, 2}, {"ab cd", 4, 1},
		{"abc", 0, 3}, {"abc", 2, 1},
		{"a", 0, 1}, {"%", 0, 0}, {"\x00", 0, 0},
		{" a", 0, 0}, {" a", 1, 1}, {"a ", 0, 1}, {"a ", 1, 0},
		{"a/b", 0, 1}, {"a//b", 1, 0}, {"a//b", 2, 0}, {"a//b", 3, 1},
		{"1(2)", 0, 1}, {"x%y", 0, 1}, {"p\x00q", 0, 1}, {"p\x0bq", 0, 3},
		{"\x80\xff", 0, 2}, {"\x80\xff", 1, 1}, {"\xff\xfe \xfd", 0, 2},
	} {
		if got := Regular(row.s, row.at); got != row.want {
			t.Errorf("Regular(%q, %d) = %d, want %d", row.s, row.at, got, row.want)
		}
	}
}

// P5.3: offsets that no byte of the string has.
func TestRegularOutsideOfTheString(t *testing.T) {
	for _, s := range []string{"", "a", " ", "ab cd", "abc", strings.Repeat("x", 1000)} {
		for _, at := range []int{least, least + 1, -len(s) - 1, -len(s), -2, -1, len(s), len(s) + 1, most - 1, most} {
			// -0 is the offset of the first byte, if there is one.
			if at == 0 && s != "" {
				continue
			}
			if got := Regular(s, at); got != 0 {
				t.Errorf("Regular of %d bytes at %d = %d, want 0", len(s), at, got)
			}
		}
	}
}

// P5.3: every offset of strings that mix all kinds of bytes.
func TestRegularAtEveryOffset(t *testing.T) {
	every := everyByte()
	for _, s := range []string{
		every,
		every + every,
		"/box { 0 0 moveto } def % a box\r\n16#FF -.5 (a b) <0f>",
		strings.Repeat("regular", 200),
		strings.Repeat("a ", 200),
		strings.Repeat(" \t", 200),
		strings.Repeat("\xc3\xa9", 200),
	} {
		want := 0
		for at := len(s) - 1; at >= 0; at-- {
			if kind(s[at]) == api.CRegular {
				want++
			} else {
				want = 0
			}
			if got := Regular(s, at); got != want {
				t.Errorf("Regular(%q, %d) = %d, want %d", s, at, got, want)
			}
		}
	}
}

// words returns the words of a text: where a regular byte begins one, Regular tells its length.
func words(s string) []string {
	var l []string
	for at := 0; at < len(s); {
		n := Regular(s, at)
		if n > 0 {
			l = append(l, s[at:at+n])
		}
		at += max(n, 1)
	}
	return l
}

// P5.4
func TestWordsEndAtTheFirstByteThatIsNotRegular(t *testing.T) {
	for _, row := range []struct {
		s    string
		want []string
	}{
		{"", nil},
		{" \t\r\n\f\x00", nil},
		{"()<>[]{}/%", nil},
		{"showpage", []string{"showpage"}},
		{"1 add", []string{"1", "add"}},
		{"/a{b[c]d}e<f>g(h)i%j", []string{"a", "b", "c", "d", "e", "f", "g", "h", "i", "j"}},
		{"k\x00l\tm\nn\fo\rp q", []string{"k", "l", "m", "n", "o", "p", "q"}},
		{"16#FF -.5 a.b", []string{"16#FF", "-.5", "a.b"}},
		{"caf\xc3\xa9\vbar \xff", []string{"caf\xc3\xa9\vbar", "\xff"}},
	} {
		if got := words(row.s); !slices.Equal(got, row.want) {
			t.Errorf("words of %q: %q, want %q", row.s, got, row.want)
		}
	}
}

// P5.4: each byte between two words either ends the first one or belongs to one longer word.
func TestEveryByteBetweenTwoWords(t *testing.T) {
	for i := range 256 {
		c := byte(i)
		s := "ab" + string([]byte{c}) + "cde"
		want := []string{"ab", "cde"}
		if kind(c) == api.CRegular {
			want = []string{s}
		}
		if got := words(s); !slices.Equal(got, want) {
			t.Errorf("words of %q: %q, want %q", s, got, want)
		}
	}
}
