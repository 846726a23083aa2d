package quote

import (
	"encoding/hex"
	"fmt"
	"math/rand/v2"
	"regexp"
	"strconv"
	"strings"
	"testing"

	"tympan/api"
)

type taking struct {
	b string
	n int
	e api.Errno
}

func success(b string, n int) taking { return taking{b: b, n: n} }

func failure(e api.Errno) taking { return taking{e: e} }

func clip(s string) string {
	if len(s) > 60 {
		return s[:20] + " ... " + s[len(s)-20:]
	}
	return s
}

func checkTake(t *testing.T, s string, want taking) {
	t.Helper()
	b, n, e := Take(s)
	if got := (taking{b, n, e}); got != want {
		t.Errorf("Take(%q) of %d bytes = %q, %d, %d; want %q, %d, %d", clip(s), len(s), clip(b), n, e, clip(want.b), want.n, want.e)
	}
}

// checkWhole takes a literal, alone and with text behind it, and every proper prefix of it.
func checkWhole(t *testing.T, literal, b string) {
	t.Helper()
	for _, behind := range []string{"", "x", ")", ">", "~>", literal} {
		checkTake(t, literal+behind, success(b, len(literal)))
	}
	checkTake(t, "", failure(api.ErrForm))
	for n := 1; n < len(literal); n++ {
		checkTake(t, literal[:n], failure(api.ErrEnd))
	}
}

func one(c byte) string { return string([]byte{c}) }

// P7.3
func TestTakeParens(t *testing.T) {
	for _, c := range []struct{ s, b string }{
		{"()", ""}, {"(a)", "a"}, {"( a b )", " a b "}, {"(%/[]{}<>~)", "%/[]{}<>~"}, {"(\x00\t\f\v\x7f\x80\xff)", "\x00\t\f\v\x7f\x80\xff"},
		// Inner parentheses.
		{"(a(b)c)", "a(b)c"}, {"(())", "()"}, {"((()()))", "(()())"}, {"((a)(b(c)))", "(a)(b(c))"},
		// Escaped ones are not matched.
		{`(\()`, "("}, {`(\))`, ")"}, {`(\)\()`, ")("}, {`((\)))`, "())"}, {`(\\)`, `\`}, {`(\\\))`, `\)`}, {`((\\))`, `(\)`},
		// Escapes.
		{`(\b\t\n\f\r)`, "\b\t\n\f\r"}, {`(\bb)`, "\bb"}, {`(\z)`, "z"}, {`(\B\N\a\v\x)`, "BNavx"}, {`(\ \%\<)`, " %<"}, {"(\\\x00\\\t\\\f\\\xff)", "\x00\t\f\xff"}, {`(\\n)`, `\n`}, {`(\\101)`, `\101`},
		// Octal escapes.
		{`(\0)`, "\x00"}, {`(\7)`, "\a"}, {`(\12)`, "\n"}, {`(\101)`, "A"}, {`(\101\5x)`, "A\x05x"}, {`(\5\5)`, "\x05\x05"}, {`(\53)`, "+"}, {`(\053)`, "+"}, {`(\0053)`, "\x053"}, {`(\1234)`, "S4"}, {`(\0000)`, "\x000"},
		{`(\377)`, "\xff"}, {`(\400)`, "\x00"}, {`(\401)`, "\x01"}, {`(\501)`, "A"}, {`(\777)`, "\xff"}, {`(\7777)`, "\xff7"},
		{`(\8)`, "8"}, {`(\9)`, "9"}, {`(\18)`, "\x018"}, {`(\19)`, "\x019"}, {`(\128)`, "\n8"}, {`(\1289)`, "\n89"}, {`(\1a)`, "\x01a"}, {`(\1())`, "\x01()"}, {`(\1\2)`, "\x01\x02"}, {"(\\1\n)", "\x01\n"}, {"(\\1\\\n2)", "\x012"},
		// Line ends.
		{"(a\nb)", "a\nb"}, {"(a\rb)", "a\nb"}, {"(a\r\nb)", "a\nb"}, {"(a\n\rb)", "a\n\nb"}, {"(\r\r\n\n)", "\n\n\n"}, {"(\r)", "\n"}, {"(\n)", "\n"}, {"(\r\n)", "\n"},
		{"(a\\\nb)", "ab"}, {"(a\\\rb)", "ab"}, {"(a\\\r\nb)", "ab"}, {"(a\\\n\rb)", "a\nb"}, {"(a\\\r\n\nb)", "a\nb"}, {"(a\\\r\rb)", "a\nb"}, {"(\\\r\\\n)", ""}, {"(\\\r\n)", ""}, {"(\\\\\n)", "\\\n"}, {"(\r\\\n\\n)", "\n\n"},
	} {
		checkWhole(t, c.s, c.b)
	}
	for _, s := range []string{"(", "(a", "(()", "((a)", `(\`, `(a\`, `(\\\`, `(a\)`, `(\1`, `(\12`, `(\123`, "(\r", "(\\\r", "(\\\n", "(()\\", "(a\x00", `(\)`, `(()\)`} {
		checkTake(t, s, failure(api.ErrEnd))
	}
}

// P7.3
func TestTakeEveryByteInParens(t *testing.T) {
	for i := range 256 {
		c := byte(i)
		s := "(a" + one(c) + "b)"
		switch c {
		case '(':
			checkTake(t, s, failure(api.ErrEnd))
			checkTake(t, s+")", success("a(b)", 6))
		case ')':
			checkTake(t, s, success("a", 3))
		case '\\':
			checkTake(t, s, success("a\b", 5))
		case 13:
			checkTake(t, s, success("a\nb", 5))
		default:
			checkTake(t, s, success("a"+one(c)+"b", 5))
		}
	}
}

// P7.3
func TestTakeEveryEscape(t *testing.T) {
	named := map[byte]string{'b': "\x08", 't': "\x09", 'n': "\x0a", 'f': "\x0c", 'r': "\x0d", 10: "", 13: ""}
	for i := range 256 {
		c := byte(i)
		want, ok := named[c]
		if !ok {
			want = one(c)
		}
		if c >= '0' && c <= '7' {
			want = one(c - '0')
		}
		checkWhole(t, `(\`+one(c)+")", want)
		checkWhole(t, `(x\`+one(c)+"y)", "x"+want+"y")
	}
}

// P7.3
func TestTakeEveryOctalEscape(t *testing.T) {
	for v := range 512 {
		for width := 1; width <= 3; width++ {
			digits := fmt.Sprintf("%0*o", width, v)
			if len(digits) != width {
				continue
			}
			for _, behind := range []string{"", "8", "9", "a", "/", ":", `\\`} {
				checkTake(t, `(\`+digits+behind+")", success(one(byte(v%256))+strings.ReplaceAll(behind, `\\`, `\`), len(digits+behind)+3))
			}
			if width == 3 {
				checkTake(t, `(\`+digits+"7)", success(one(byte(v%256))+"7", 7))
			}
		}
	}
}

// P7.3
func TestTakePairs(t *testing.T) {
	for _, c := range []struct{ s, b string }{
		{"<>", ""}, {"<41>", "A"}, {"<4142>", "AB"}, {"<4A4b>", "JK"}, {"<aAbBcCdDeEfF>", "\xaa\xbb\xcc\xdd\xee\xff"}, {"<0123456789>", "\x01\x23\x45\x67\x89"},
		{"<4>", "@"}, {"<0>", "\x00"}, {"<f>", "\xf0"}, {"<41 4>", "A@"}, {"<414>", "A@"}, {"<4 >", "@"}, {"< 4>", "@"},
		{"< >", ""}, {"<\x00\t\n\f\r >", ""}, {"<\x004\x001\x00>", "A"}, {"<\t4\t1\t>", "A"}, {"<\n4\n1\n>", "A"}, {"<\f4\f1\f>", "A"}, {"<\r4\r1\r>", "A"}, {"< 4 1 >", "A"},
		{"<41\x0042\t43\n44\f45\r46 47>", "ABCDEFG"}, {"<4 1\r\n4 2>", "AB"},
	} {
		checkWhole(t, c.s, c.b)
	}
	for _, s := range []string{"<g>", "<4g>", "<41g>", "<<", "<<41>", "<41<", "< ~>", "<41~>", "<4~", "<(", "<)", "<+1>", "<-1>", "<4.1>", "<4,1>", "<0x41>", "<\v>", "<\x80>", "<41\xff", "<41%\n>", "<G0>", "</>"} {
		checkTake(t, s, failure(api.ErrForm))
	}
}

const blanks, hexadecimals = "\x00\t\n\f\r ", "0123456789abcdefABCDEF"

// P7.3: every byte in the place of a first and of a second digit.
func TestTakeEveryByteInPairs(t *testing.T) {
	for i := range 256 {
		c := byte(i)
		first, second := "<41"+one(c)+"2>", "<414"+one(c)+"5>"
		switch {
		case strings.IndexByte(blanks, c) >= 0:
			checkWhole(t, first, "A\x20")
			checkWhole(t, second, "AE")
		case strings.IndexByte(hexadecimals, c) >= 0:
			v, _ := strconv.ParseUint(one(c), 16, 8)
			checkWhole(t, first, "A"+one(byte(v<<4)+2))
			checkWhole(t, second, "A"+one(0x40+byte(v))+"\x50")
		case c == '>':
			checkTake(t, first, success("A", 4))
			checkTake(t, second, success("A@", 5))
		default:
			checkTake(t, first, failure(api.ErrForm))
			checkTake(t, second, failure(api.ErrForm))
			checkTake(t, first[:4], failure(api.ErrForm))
			checkTake(t, second[:5], failure(api.ErrForm))
		}
	}
	for i := range 256 {
		checkTake(t, fmt.Sprintf("<%02x>", i), success(one(byte(i)), 4))
		checkTake(t, fmt.Sprintf("<%02X>", i), success(one(byte(i)), 4))
	}
}

// P7.3
func TestTakeGroups(t *testing.T) {
	for _, c := range []struct{ s, b string }{
		{"<~~>", ""}, {"<~@:E_W~>", "abcd"}, {"<~z~>", "\x00\x00\x00\x00"}, {"<~zz~>", "\x00\x00\x00\x00\x00\x00\x00\x00"}, {"<~!!!!!~>", "\x00\x00\x00\x00"}, {"<~@:E_Wz@:E_W~>", "abcd\x00\x00\x00\x00abcd"}, {"<~z@/~>", "\x00\x00\x00\x00a"},
		// The byte > is a digit, and so are ( and <.
		{"<~!!!!>~>", "\x00\x00\x00\x1d"}, {"<~!!!!(~>", "\x00\x00\x00\x07"}, {"<~!!!!<~>", "\x00\x00\x00\x1b"},
		// Blanks.
		{"<~ ~>", ""}, {"<~\x00\t\n\f\r ~>", ""}, {"<~ @ : E _ W ~>", "abcd"}, {"<~\x00@\t:\nE\f_\rW ~>", "abcd"}, {"<~ z z ~>", "\x00\x00\x00\x00\x00\x00\x00\x00"}, {"<~ @ / ~>", "a"}, {"<~@:\r\nE_W@/~>", "abcda"},
		// The greatest group.
		{"<~s8W-!~>", "\xff\xff\xff\xff"}, {"<~s8W,u~>", "\xff\xff\xff\xfe"},
		// Last groups of two, three and four digits, of the least and the greatest numbers.
		{"<~!!~>", "\x00"}, {"<~!!!~>", "\x00\x00"}, {"<~!!!!~>", "\x00\x00\x00"}, {"<~@/~>", "a"}, {"<~@:B~>", "ab"}, {"<~@:E^~>", "abc"}, {"<~@:E_W@:E^~>", "abcdabc"},
		{"<~rr~>", "\xff"}, {"<~s8N~>", "\xff\xff"}, {"<~s8W*~>", "\xff\xff\xff"}, {"<~s7~>", "\xff"}, {"<~s8V~>", "\xff\xff"}, {"<~s8W,~>", "\xff\xff\xff"}, {"<~!u~>", "\x03"}, {"<~\"!~>", "\x03"},
	} {
		checkWhole(t, c.s, c.b)
	}
	for _, s := range []string{
		// A group above 2^32 - 1, at its fifth digit, whatever follows.
		"<~s8W-\"~>", "<~s8W-\"", "<~uuuuu~>", "<~uuuuu", "<~t!!!!~>", "<~s9!!!", "<~s8X!!", "<~s8W.!", "<~s 8 W - \"", "<~zs8W-\"",
		// A last group that only the padding lifts above 2^32 - 1, and one that is above it without any.
		"<~s8~>", "<~s8W~>", "<~s8W-~>", "<~zs8~>", "<~@:E_Ws8W-~>", "<~t!~>", "<~uu~>", "<~uuu~>", "<~uuuu~>",
		// A last group of one digit.
		"<~!~>", "<~@~>", "<~u~>", "<~z@~>", "<~@:E_W@~>", "<~@ ~>",
		// A z within a group.
		"<~@z~>", "<~@:z~>", "<~@:Ez~>", "<~@:E_z", "<~@ z", "<~z@z",
		// A ~ before another byte.
		"<~~x", "<~~~>", "<~~ >", "<~@:E_W~ >", "<~@:E_W~\n>", "<~@~x", "<~@/~x", "<~s8~x", "<~z~z", "<~~<", "<~~\x00",
		// Bytes that are no digits.
		"<~v~>", "<~w", "<~x", "<~y", "<~{", "<~|~>", "<~}", "<~\x7f", "<~\x80~>", "<~\xff", "<~\v~>", "<~\x01", "<~@v", "<~@:E_v",
	} {
		checkTake(t, s, failure(api.ErrForm))
	}
	for _, s := range []string{"<~", "<~@", "<~@:", "<~@:E", "<~@:E_", "<~@:E_W", "<~z", "<~ ", "<~>", "<~@>", "<~s8W-", "<~~", "<~@:E_W~", "<~@/~", "<~@~", "<~s8~", "<~s8W-~", "<~z~"} {
		checkTake(t, s, failure(api.ErrEnd))
	}
}

// P7.3: every byte in the place of each digit of a group.
func TestTakeEveryByteInGroups(t *testing.T) {
	const digits = "@:E_W"
	for i := range 256 {
		c := byte(i)
		for place := range len(digits) {
			s := "<~" + digits[:place] + one(c)
			whole := s + digits[place:] + "~>"
			switch {
			case strings.IndexByte(blanks, c) >= 0:
				checkTake(t, whole, success("abcd", len(whole)))
				checkTake(t, s, failure(api.ErrEnd))
			case c >= 33 && c <= 117, c == '~', c == 'z' && place == 0:
				checkTake(t, whole, expected(whole))
				checkTake(t, s, expected(s))
			default:
				checkTake(t, whole, failure(api.ErrForm))
				checkTake(t, s, failure(api.ErrForm))
			}
		}
	}
	for i := range 85 {
		s := "<~!!!!" + one(byte(33+i)) + "~>"
		checkTake(t, s, success("\x00\x00\x00"+one(byte(i)), len(s)))
	}
}

// P7.3
func TestTakeWhatIsNoLiteral(t *testing.T) {
	checkTake(t, "", failure(api.ErrForm))
	for i := range 256 {
		c := byte(i)
		if c == '(' || c == '<' {
			checkTake(t, one(c), failure(api.ErrEnd))
			continue
		}
		for _, behind := range []string{"", "(a)", "<41>", "<~@/~>", ")", ">", "~>", strings.Repeat("a", 2*api.MaxString)} {
			checkTake(t, one(c)+behind, failure(api.ErrForm))
		}
	}
}

const most = api.MaxString

// P7.3: exactly as many bytes as there may be, and one more.
func TestTakeAtTheLimitInParens(t *testing.T) {
	full := "(" + strings.Repeat("a", most)
	checkWhole(t, full+")", full[1:])
	checkTake(t, full+"\\\n\\\r\\\r\n)", success(full[1:], most+9))
	checkTake(t, "("+strings.Repeat(`\101`, most)+")", success(strings.Repeat("A", most), 4*most+2))
	checkTake(t, "("+strings.Repeat("\r\n", most)+")", success(strings.Repeat("\n", most), 2*most+2))
	checkTake(t, "("+strings.Repeat("\\\n", 3*most)+")", success("", 6*most+2))
	deep := strings.Repeat("(", most/2) + strings.Repeat(")", most/2)
	checkWhole(t, "("+deep+")", deep)
	// Where the literal could still end, or a line end could be skipped, nothing is produced yet.
	for _, s := range []string{full, full + `\`, full + "\\\r", full + "\\\n", "(" + deep, "(" + deep + `\`} {
		checkTake(t, s, failure(api.ErrEnd))
	}
	for _, behind := range []string{"a", "a)", "(", "()", "\n", "\r", "\r\n", "\r\n)", `\n`, `\n)`, `\1`, `\12`, `\123`, `\123)`, `\)`, `\\`, `\x`, "\\\nb", "\\\r\n\n"} {
		checkTake(t, full+behind, failure(api.ErrLimit))
	}
	checkTake(t, "("+deep+"a", failure(api.ErrLimit))
	checkTake(t, "("+deep[1:]+")", success(deep[1:len(deep)-1], most))
	checkTake(t, strings.Repeat("(", most+1), failure(api.ErrEnd))
	checkTake(t, strings.Repeat("(", most+2), failure(api.ErrLimit))
	checkTake(t, strings.Repeat("(", 1000000), failure(api.ErrLimit))
}

// P7.3
func TestTakeAtTheLimitInPairs(t *testing.T) {
	full := "<" + strings.Repeat("4a", most)
	b := strings.Repeat("J", most)
	checkWhole(t, full+">", b)
	checkWhole(t, full[:len(full)-1]+">", b[1:]+"@")
	checkTake(t, full+blanks+">", success(b, len(full)+7))
	checkTake(t, "<"+strings.Repeat(" 4 a", most)+">", success(b, 4*most+2))
	// The first digit of a pair produces nothing.
	for _, s := range []string{full, full + " ", full + "4", full + "4 "} {
		checkTake(t, s, failure(api.ErrEnd))
	}
	for _, behind := range []string{"4>", "4 >", "4a", "4a>", "4ag", "4>g", "4 a", "4a4g"} {
		checkTake(t, full+behind, failure(api.ErrLimit))
	}
	for _, behind := range []string{"g", "4g", "~", "4~", "(", "4 g", "<"} {
		checkTake(t, full+behind, failure(api.ErrForm))
	}
}

// P7.3
func TestTakeAtTheLimitInGroups(t *testing.T) {
	full := "<~" + strings.Repeat("@:E_W", most/4)
	b := strings.Repeat("abcd", most/4)
	checkWhole(t, full+"~>", b)
	checkTake(t, full+blanks+"~>", success(b, len(full)+8))
	zeros := "<~" + strings.Repeat("z", most/4)
	checkWhole(t, zeros+"~>", strings.Repeat("\x00", most))
	for missing, last := range map[int]string{1: "@:E^", 2: "@:B", 3: "@/"} {
		checkWhole(t, full[:len(full)-5]+last+"~>", b[:most-missing])
	}
	for _, full := range []string{full, zeros} {
		// Up to the fifth digit, or up to the ~, a group produces nothing.
		for _, behind := range []string{"", " ", "@", "@/", "@:E_", "~", "@/~", "@:B~", "@:E^~", "@~", "s8~"} {
			checkTake(t, full+behind, failure(api.ErrEnd))
		}
		for _, behind := range []string{"z", "zv", " z", "@:E_W", "@:E_Wv", "s8W-!", "@/~>", "@:B~>", "@:E^~>", " @ / ~>", "@:E_W~>", "z~>", "z~x"} {
			checkTake(t, full+behind, failure(api.ErrLimit))
		}
		// ErrForm at the byte that would also be too many.
		for _, behind := range []string{"s8W-\"", "uuuuu", "s8~>", "s8W~>", "s8W-~>", "@~>", "@/~x", "@:B~ ", "@:E^~~"} {
			checkTake(t, full+behind, failure(api.ErrForm))
		}
		// ErrForm at a byte before that.
		for _, behind := range []string{"v", "@v", "@/v", "@z", "@:E_z", "~x", "~~"} {
			checkTake(t, full+behind, failure(api.ErrForm))
		}
	}
	// A group that is one byte too long, behind one that is not complete.
	checkTake(t, full[:len(full)-1]+"v", failure(api.ErrForm))
	checkTake(t, zeros+"z"+strings.Repeat("uuuuu", 1000), failure(api.ErrLimit))
}

// expected is what Take returns by P7.3, told notation by notation without going through the bytes one by one.
func expected(s string) taking {
	switch {
	case strings.HasPrefix(s, "("):
		return expectedParens(s)
	case strings.HasPrefix(s, "<~"):
		return expectedGroups(s)
	case strings.HasPrefix(s, "<"):
		return expectedPairs(s)
	}
	return failure(api.ErrForm)
}

var (
	piece      = regexp.MustCompile(`(?s)\\[0-7]{1,3}|\\\r\n|\\.|\r\n|.`)
	pairBytes  = regexp.MustCompile(`\A[\x00\t\n\f\r 0-9a-fA-F]*`)
	digitBytes = regexp.MustCompile(`\A[\x00\t\n\f\r !-uz]*`)
	noBlanks   = strings.NewReplacer("\x00", "", "\t", "", "\n", "", "\f", "", "\r", "", " ", "")
)

// standsFor is what a piece of a literal in parentheses stands for.
func standsFor(p string) string {
	switch p {
	case "\\\n", "\\\r", "\\\r\n":
		return ""
	case "\n", "\r", "\r\n":
		return "\n"
	case `\b`, `\t`, `\n`, `\f`, `\r`:
		return map[string]string{`\b`: "\b", `\t`: "\t", `\n`: "\n", `\f`: "\f", `\r`: "\r"}[p]
	}
	if p[0] != '\\' {
		return p
	}
	if v, err := strconv.ParseUint(p[1:], 8, 16); err == nil {
		return one(byte(v % 256))
	}
	return p[1:]
}

func expectedParens(s string) taking {
	var b strings.Builder
	depth, at := 1, 1
	for _, p := range piece.FindAllString(s[1:], -1) {
		at += len(p)
		switch p {
		case "(":
			depth++
		case ")":
			depth--
		case `\`:
			return failure(api.ErrEnd)
		}
		if depth == 0 {
			return success(b.String(), at)
		}
		b.WriteString(standsFor(p))
		if b.Len() > most {
			return failure(api.ErrLimit)
		}
	}
	return failure(api.ErrEnd)
}

func expectedPairs(s string) taking {
	end := 1 + len(pairBytes.FindString(s[1:]))
	digits := noBlanks.Replace(s[1:end])
	switch {
	case len(digits) >= 2*most+2:
		return failure(api.ErrLimit)
	case end == len(s):
		return failure(api.ErrEnd)
	case s[end] != '>':
		return failure(api.ErrForm)
	case len(digits) == 2*most+1:
		return failure(api.ErrLimit)
	}
	b, err := hex.DecodeString((digits + "0")[:(len(digits)+1)/2*2])
	if err != nil {
		panic("not hexadecimal: " + digits)
	}
	return success(string(b), end+1)
}

// unpacked returns the four bytes of five digits, or false if they are more than 32 bits hold.
func unpacked(digits string) (string, bool) {
	v := 0
	for i, weight := range []int{85 * 85 * 85 * 85, 85 * 85 * 85, 85 * 85, 85, 1} {
		v += weight * int(digits[i]-33)
	}
	b, err := hex.DecodeString(fmt.Sprintf("%08x", v%(1<<32)))
	return string(b), err == nil && v < 1<<32
}

func expectedGroups(s string) taking {
	end := 2 + len(digitBytes.FindString(s[2:]))
	digits := noBlanks.Replace(s[2:end])
	var b strings.Builder
	for len(digits) >= 5 || strings.Contains(digits, "z") {
		group := digits[:1]
		if group != "z" {
			group = digits[:min(5, len(digits))]
		}
		digits = digits[len(group):]
		bytes, ok := "\x00\x00\x00\x00", true
		switch {
		case group != "z" && strings.Contains(group, "z"):
			ok = false
		case group != "z":
			bytes, ok = unpacked(group)
		}
		if !ok {
			return failure(api.ErrForm)
		}
		if b.Len() == most {
			return failure(api.ErrLimit)
		}
		b.WriteString(bytes)
	}
	return expectedEnd(s, end, b.String(), digits)
}

// expectedEnd is what Take returns where the digits of a literal in base 85 end; last is the last group.
func expectedEnd(s string, end int, b, last string) taking {
	switch {
	case end == len(s):
		return failure(api.ErrEnd)
	case s[end] != '~':
		return failure(api.ErrForm)
	case end+1 == len(s):
		return failure(api.ErrEnd)
	case s[end+1] != '>' || len(last) == 1:
		return failure(api.ErrForm)
	case last == "":
		return success(b, end+2)
	}
	bytes, ok := unpacked((last + "uuuu")[:5])
	if !ok {
		return failure(api.ErrForm)
	}
	if len(b) == most {
		return failure(api.ErrLimit)
	}
	return success(b+bytes[:len(last)-1], end+2)
}

// eachShort calls f with every string of at most n bytes of the alphabet.
func eachShort(alphabet string, n int, f func(s string)) {
	f("")
	if n == 0 {
		return
	}
	for i := range len(alphabet) {
		eachShort(alphabet, n-1, func(s string) { f(alphabet[i:i+1] + s) })
	}
}

// P7.3: all short strings out of the bytes that mean something in a notation.
func TestTakeAllShortStrings(t *testing.T) {
	for _, c := range []struct {
		alphabet string
		n        int
		behind   []string
	}{
		{"()<>~41 z", 5, []string{""}},
		{"()\\\r\n178b", 5, []string{"", ")"}},
	} {
		eachShort(c.alphabet, c.n, func(s string) {
			for _, behind := range c.behind {
				checkTake(t, s+behind, expected(s+behind))
				checkTake(t, "("+s+behind, expected("("+s+behind))
			}
		})
	}
	eachShort("4fAg>~ \v", 5, func(s string) { checkTake(t, "<"+s, expected("<"+s)) })
	eachShort("!su8z~> ", 5, func(s string) {
		for _, behind := range []string{"", "~", "~>", "W-!~>", "W-\""} {
			checkTake(t, "<~"+s+behind, expected("<~"+s+behind))
		}
	})
}

// P7.3: short strings behind as many bytes as there may be, or a few less.
func TestTakeShortStringsAtTheLimit(t *testing.T) {
	for less := range 2 {
		eachShort("()\\\r\n1b", 3, func(s string) {
			s = "(" + strings.Repeat("a", most-less) + s
			checkTake(t, s, expected(s))
		})
		eachShort("4> g~", 4, func(s string) {
			s = "<" + strings.Repeat("61", most-less) + s
			checkTake(t, s, expected(s))
		})
		eachShort("s8W-!z~>", 3, func(s string) {
			for _, behind := range []string{"", "~>", "W-\"", "W-!~>"} {
				s := "<~" + strings.Repeat("z", most/4-less) + s + behind
				checkTake(t, s, expected(s))
			}
		})
	}
}

// P7.3: literals of many bytes in which a few bytes are replaced, removed or added.
func TestTakeBrokenLiterals(t *testing.T) {
	random := rand.New(rand.NewPCG(7, 3))
	for i := range 30000 {
		b := someBytes(random, random.IntN(40))
		s := []byte([]string{Paren(b), Hex(b), Eighty(b), "(" + b + ")"}[i%4])
		for range 1 + random.IntN(3) {
			at := random.IntN(len(s))
			c := byte(random.IntN(256))
			switch random.IntN(3) {
			case 0:
				s[at] = c
			case 1:
				s = append(s[:at], s[at+1:]...)
			case 2:
				s = append(s[:at], append([]byte{c}, s[at:]...)...)
			}
			if len(s) == 0 {
				break
			}
		}
		checkTake(t, string(s), expected(string(s)))
	}
}
