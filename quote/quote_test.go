package quote

import (
	"encoding/ascii85"
	"encoding/hex"
	"fmt"
	"math/rand/v2"
	"strings"
	"testing"

	"tympan/api"
)

// everyByte returns a string of all bytes, in order.
func everyByte() string {
	var b []byte
	for c := range 256 {
		b = append(b, byte(c))
	}
	return string(b)
}

// escaped is a byte as P7.1 says that it is written in parentheses.
func escaped(c byte) string {
	named := map[byte]string{8: `\b`, 9: `\t`, 10: `\n`, 12: `\f`, 13: `\r`, '(': `\(`, ')': `\)`, '\\': `\\`}
	if s, ok := named[c]; ok {
		return s
	}
	if c < 32 || c > 126 {
		return fmt.Sprintf(`\%03o`, c)
	}
	return fmt.Sprintf("%c", c)
}

// P7.1
func TestParenOfEveryByte(t *testing.T) {
	all := ""
	for i := range 256 {
		c := byte(i)
		all += escaped(c)
		if got, want := Paren(string([]byte{c})), "("+escaped(c)+")"; got != want {
			t.Errorf("Paren of the byte %d = %q, want %q", c, got, want)
		}
		// An octal escape is written in full, whatever follows it.
		if got, want := Paren(string([]byte{c, '7', c})), "("+escaped(c)+"7"+escaped(c)+")"; got != want {
			t.Errorf("Paren of the byte %d, 7 and the byte = %q, want %q", c, got, want)
		}
	}
	if got, want := Paren(everyByte()), "("+all+")"; got != want {
		t.Errorf("Paren of all bytes = %q, want %q", got, want)
	}
}

// P7.1
func TestParenRows(t *testing.T) {
	for _, c := range []struct{ b, want string }{
		{"", "()"},
		{"a(\n", `(a\(\n)`},
		{"a(b)c", `(a\(b\)c)`},
		{`\`, `(\\)`},
		{`\n`, `(\\n)`},
		{"\b\t\n\f\r", `(\b\t\n\f\r)`},
		{"\x00\x01\x07\v\x0e\x1f", `(\000\001\007\013\016\037)`},
		{" !~", "( !~)"},
		{"\x7f\x80\xff", `(\177\200\377)`},
		{"\xc3\xa9", `(\303\251)`},
		{"<~>%/[]{}", "(<~>%/[]{})"},
	} {
		if got := Paren(c.b); got != c.want {
			t.Errorf("Paren(%q) = %q, want %q", c.b, got, c.want)
		}
	}
}

// P7.1
func TestHexOfEveryByte(t *testing.T) {
	for i := range 256 {
		b := string([]byte{byte(i)})
		if got, want := Hex(b), fmt.Sprintf("<%02x>", i); got != want {
			t.Errorf("Hex(%q) = %q, want %q", b, got, want)
		}
	}
	if got, want := Hex(everyByte()), "<"+hex.EncodeToString([]byte(everyByte()))+">"; got != want {
		t.Errorf("Hex of all bytes = %q, want %q", got, want)
	}
	for _, c := range []struct{ b, want string }{{"", "<>"}, {"A", "<41>"}, {"a(\n", "<61280a>"}, {"\x00\x00", "<0000>"}, {"\xab\xcd\xef", "<abcdef>"}} {
		if got := Hex(c.b); got != c.want {
			t.Errorf("Hex(%q) = %q, want %q", c.b, got, c.want)
		}
	}
}

// P7.2
func TestEightyRows(t *testing.T) {
	for _, c := range []struct{ b, want string }{
		// Zero to nine bytes.
		{"", "<~~>"}, {"M", "<~9`~>"}, {"Ma", "<~9jn~>"}, {"Man", "<~9jqo~>"}, {"Man ", "<~9jqo^~>"}, {"Man i", "<~9jqo^B`~>"},
		{"Man is", "<~9jqo^Bla~>"}, {"Man is ", "<~9jqo^BlbB~>"}, {"Man is d", "<~9jqo^BlbD-~>"}, {"Man is di", "<~9jqo^BlbD-B`~>"},
		{"abcd", "<~@:E_W~>"},
		// Four bytes 0 are one group; fewer at the end are not, nor are four that belong to two groups.
		{"\x00\x00\x00\x00", "<~z~>"}, {"\x00\x00\x00\x00\x00\x00\x00\x00", "<~zz~>"}, {"abcd\x00\x00\x00\x00e", "<~@:E_WzAH~>"},
		{"\x00", "<~!!~>"}, {"\x00\x00", "<~!!!~>"}, {"\x00\x00\x00", "<~!!!!~>"}, {"\x00\x00\x00\x00\x00", "<~z!!~>"},
		{"abcd\x00", "<~@:E_W!!~>"}, {"abcd\x00\x00", "<~@:E_W!!!~>"}, {"abcd\x00\x00\x00", "<~@:E_W!!!!~>"}, {"\x00abcd\x00\x00\x00", "<~!+B>HA,lT0~>"},
		{"a\x00\x00\x00", "<~@/p9-~>"}, {"ab\x00\x00", "<~@:B3:~>"}, {"abc\x00", "<~@:E^H~>"},
		// The least groups and the greatest ones.
		{"\x00\x00\x00\x01", `<~!!!!"~>`}, {"\x01\x00\x00\x00", `<~!<<*"~>`},
		{"\xff\xff\xff\xff", "<~s8W-!~>"}, {"\xff\xff\xff\xfe", "<~s8W,u~>"}, {"\xff\xff\xff", "<~s8W*~>"}, {"\xff\xff", "<~s8N~>"}, {"\xff", "<~rr~>"},
	} {
		if got := Eighty(c.b); got != c.want {
			t.Errorf("Eighty(%q) = %q, want %q", c.b, got, c.want)
		}
	}
}

// expectedEighty is the literal of b in base 85, as the library encodes it.
func expectedEighty(b string) string {
	digits := make([]byte, ascii85.MaxEncodedLen(len(b)))
	return "<~" + string(digits[:ascii85.Encode(digits, []byte(b))]) + "~>"
}

// someBytes returns a string of n bytes, some of which are 0 or 255 more often than others are.
func someBytes(random *rand.Rand, n int) string {
	b := make([]byte, n)
	zero := random.IntN(4)
	for i := range b {
		switch random.IntN(5) {
		case 0:
			b[i] = 255
		case 1, 2, 3:
			b[i] = byte(random.IntN(256))
		}
		if zero == 0 && i%8 < 4 {
			b[i] = 0
		}
	}
	return string(b)
}

// P7.2
func TestEightyOfManyBytes(t *testing.T) {
	random := rand.New(rand.NewPCG(7, 2))
	for i := range 20000 {
		b := someBytes(random, i%30)
		if got, want := Eighty(b), expectedEighty(b); got != want {
			t.Errorf("Eighty(%q) = %q, want %q", b, got, want)
		}
	}
	for _, n := range []int{api.MaxString - 1, api.MaxString, api.MaxString + 1, 100003} {
		b := someBytes(random, n)
		if Eighty(b) != expectedEighty(b) {
			t.Errorf("Eighty of %d bytes is not what the library encodes", n)
		}
	}
}

// checkBack takes what the three formatters write of b, alone and with text behind it.
func checkBack(t *testing.T, b string) {
	t.Helper()
	for _, literal := range []string{Paren(b), Hex(b), Eighty(b)} {
		for _, behind := range []string{"", " ", ")", ">", "~>", "(x)", "\n1 add", "\xff"} {
			checkTake(t, literal+behind, success(b, len(literal)))
		}
	}
}

// P7.4
func TestTakeWhatTheFormattersWrote(t *testing.T) {
	checkBack(t, "")
	checkBack(t, everyByte())
	checkBack(t, strings.Repeat("()", 300))
	checkBack(t, strings.Repeat("(", 300)+strings.Repeat("\\", 300))
	for i := range 256 {
		checkBack(t, string([]byte{byte(i)}))
		checkBack(t, string([]byte{byte(i), '0', byte(i)}))
	}
	random := rand.New(rand.NewPCG(7, 4))
	for i := range 10000 {
		checkBack(t, someBytes(random, i%50))
	}
}

// P7.4: all strings of one and of two bytes, and four bytes next to the bounds of what a group's first digits tell.
func TestTakeShortStringsBack(t *testing.T) {
	for i := range 1 << 16 {
		b := string([]byte{byte(i >> 8), byte(i)})
		for _, literal := range []string{Paren(b), Hex(b), Eighty(b)} {
			checkTake(t, literal, success(b, len(literal)))
		}
		for _, b := range []string{"\x00" + b, "\xff" + b, "\xff\xff" + b, b + "\x00\x00", b + "\xff\xff"} {
			checkTake(t, Eighty(b), success(b, len(Eighty(b))))
		}
	}
}

// P7.4: as long as a string may be, and one byte longer.
func TestTakeTheLongestStringsBack(t *testing.T) {
	random := rand.New(rand.NewPCG(7, 5))
	for _, n := range []int{api.MaxString - 4, api.MaxString - 3, api.MaxString - 2, api.MaxString - 1, api.MaxString} {
		checkBack(t, someBytes(random, n))
		checkBack(t, strings.Repeat("\x00", n))
		checkBack(t, strings.Repeat("\xff", n))
		checkBack(t, strings.Repeat("(", n))
	}
	for _, n := range []int{api.MaxString + 1, api.MaxString + 2, api.MaxString + 3, api.MaxString + 4, 3 * api.MaxString} {
		b := someBytes(random, n)
		for _, literal := range []string{Paren(b), Hex(b), Eighty(b)} {
			checkTake(t, literal, failure(api.ErrLimit))
		}
	}
}
