package token

import (
	"fmt"
	"math"
	"math/rand/v2"
	"regexp"
	"slices"
	"strings"
	"testing"

	"tympan/api"
	"tympan/numtext"
	"tympan/quote"
)

// tok is a token without an offset.
func tok(kind, n int, s string) api.Token { return api.Token{Kind: kind, N: n, S: s} }

func name(s string) api.Token { return tok(api.TName, 0, s) }

// at is the token at the offset.
func at(t api.Token, offset int) api.Token {
	t.At = offset
	return t
}

// bare is a copy of the tokens without their offsets.
func bare(l []api.Token) []api.Token {
	l = slices.Clone(l)
	for i := range l {
		l[i].At = 0
	}
	return l
}

// brief is the beginning of what is told of the tokens.
func brief(l ...any) string { return fmt.Sprintf("%.200s", fmt.Sprintf("%q", l)) }

func checkNext(t *testing.T, s string, offset int, want api.Token, next int, e api.Errno) {
	t.Helper()
	got, gotNext, gotE := Next(s, offset)
	if got != want || gotNext != next || gotE != e {
		t.Errorf("Next(%.60q, %d) = %s, %d, %d, want %s, %d, %d", s, offset, brief(got), gotNext, gotE, brief(want), next, e)
	}
}

// checkOne checks a text that is one token and nothing else, also with other bytes before and after it.
func checkOne(t *testing.T, s string, want api.Token) {
	t.Helper()
	n := len(s)
	checkNext(t, s, 0, want, n, api.OK)
	checkNext(t, s+" ", 0, want, n, api.OK)
	checkNext(t, s+"{", 0, want, n, api.OK)
	checkNext(t, s+"\x00)", 0, want, n, api.OK)
	checkNext(t, " \t"+s, 0, at(want, 2), n+2, api.OK)
	checkNext(t, "ab"+s+"}", 2, at(want, 2), n+2, api.OK)
	checkNext(t, ")%(\n"+s+"%", 1, at(want, 4), n+4, api.OK)
}

// checkFault checks a text whose first token is an error, wherever it begins.
func checkFault(t *testing.T, s string, e api.Errno) {
	t.Helper()
	checkNext(t, s, 0, api.Token{}, 0, e)
	checkNext(t, " \r\n"+s, 0, api.Token{}, 3, e)
	checkNext(t, " \r\n"+s, 2, api.Token{}, 3, e)
	checkNext(t, "{}"+s, 2, api.Token{}, 2, e)
	checkNext(t, "a%b\n"+s, 1, api.Token{}, 4, e)
}

// P8.1: an offset that is out of range.
func TestNextOffsets(t *testing.T) {
	for _, s := range []string{"", " ", "x", "x ", "ab cd", "(", ")", "%", strings.Repeat("n", 200)} {
		for _, offset := range []int{-1, -2, math.MinInt, len(s) + 1, len(s) + 2, math.MaxInt} {
			checkNext(t, s, offset, api.Token{}, 0, api.ErrArg)
		}
		checkNext(t, s, len(s), api.Token{}, len(s), api.OK)
	}
	checkNext(t, "ab cd", 0, name("ab"), 2, api.OK)
	checkNext(t, "ab cd", 1, at(name("b"), 1), 2, api.OK)
	checkNext(t, "ab cd", 2, at(name("cd"), 3), 5, api.OK)
	checkNext(t, "ab cd", 3, at(name("cd"), 3), 5, api.OK)
	checkNext(t, "ab cd", 4, at(name("d"), 4), 5, api.OK)
}

// samples are texts of one token each, and the tokens.
func samples() (texts []string, tokens []api.Token) {
	for _, c := range []struct {
		s string
		t api.Token
	}{
		{"7", tok(api.TInt, 7, "")}, {"-2147483647", tok(api.TInt, -api.MaxInt, "")}, {"16#fF", tok(api.TInt, 255, "")},
		{"1.5", tok(api.TFix, 98304, "")}, {"-.5", tok(api.TFix, -32768, "")}, {"0.", tok(api.TFix, 0, "")},
		{"a", name("a")}, {"x~\\y", name("x~\\y")}, {"-", name("-")}, {"1e3", name("1e3")},
		{"/a", tok(api.TLit, 0, "a")}, {"/", tok(api.TLit, 0, "")}, {"/12", tok(api.TLit, 0, "12")},
		{"//a", tok(api.TNow, 0, "a")}, {"//", tok(api.TNow, 0, "")}, {"//1.5", tok(api.TNow, 0, "1.5")},
		{"()", tok(api.TString, 0, "")}, {"(a (b)\\n% )", tok(api.TString, 0, "a (b)\n% ")}, {"<4 1>", tok(api.TString, 0, "A")}, {"<>", tok(api.TString, 0, "")}, {"<~@:E_W~>", tok(api.TString, 0, "abcd")},
		{"{", tok(api.TOpen, 0, "")}, {"}", tok(api.TClose, 0, "")}, {"[", tok(api.TLeft, 0, "")}, {"]", tok(api.TRight, 0, "")}, {"<<", tok(api.TBegin, 0, "")}, {">>", tok(api.TEnd, 0, "")},
	} {
		texts = append(texts, c.s)
		tokens = append(tokens, c.t)
	}
	return texts, tokens
}

// regular is the beginning of words and names; the blanks and the special bytes are listed anew here.
var regular = regexp.MustCompile(`^[^\x00\t\n\f\r ()<>\[\]{}/%]`)

// joins reports whether the token of the text a would go on into a text b directly behind it.
func joins(a string, kind int, b string) bool {
	switch kind {
	case api.TInt, api.TFix, api.TName, api.TLit, api.TNow:
		return regular.MatchString(b) || a == "/" && strings.HasPrefix(b, "/")
	}
	return false
}

// P8.1: each kind of token directly before each other kind, and at the end.
func TestNextPairs(t *testing.T) {
	texts, tokens := samples()
	for i, a := range texts {
		checkOne(t, a, tokens[i])
		for j, b := range texts {
			n, m := len(a), len(b)
			if !joins(a, tokens[i].Kind, b) {
				checkNext(t, a+b, 0, tokens[i], n, api.OK)
				checkNext(t, a+b, n, at(tokens[j], n), n+m, api.OK)
				checkNext(t, a+b, n+m, api.Token{}, n+m, api.OK)
			}
			checkNext(t, a+" "+b, 0, tokens[i], n, api.OK)
			checkNext(t, a+" "+b, n, at(tokens[j], n+1), n+1+m, api.OK)
			checkNext(t, a+"%"+b+"\n"+b, n, at(tokens[j], n+m+2), n+m+2+m, api.OK)
		}
	}
}

// P8.1: tokens that go on into what would be a token by itself.
func TestNextJoins(t *testing.T) {
	for s, want := range map[string]api.Token{
		"ab": name("ab"), "a1": name("a1"), "1a": name("1a"), "12": tok(api.TInt, 12, ""), "1.52": tok(api.TFix, 99615, ""), "1.5.": name("1.5."), "-7": tok(api.TInt, -7, ""), "16#ff1": tok(api.TInt, 4081, ""),
		"/a7": tok(api.TLit, 0, "a7"), "/-.5": tok(api.TLit, 0, "-.5"), "//16#ff": tok(api.TNow, 0, "16#ff"), "//a": tok(api.TNow, 0, "a"),
	} {
		checkOne(t, s, want)
	}
}

// P8.1: blanks of every kind, and bytes that are none.
func TestNextBlanks(t *testing.T) {
	blanks := "\x00\t\n\f\r "
	for c := range 256 {
		b := string([]byte{byte(c)})
		if !strings.Contains(blanks, b) {
			if got, next, e := Next(b+"{", 0); b != "%" && e == api.OK && (got.At != 0 || next != 1) {
				t.Errorf("the byte %d is skipped: %v, %d", c, got, next)
			}
			continue
		}
		checkNext(t, b, 0, api.Token{}, 1, api.OK)
		checkNext(t, b+b, 1, api.Token{}, 2, api.OK)
		checkNext(t, b+"a"+b+"7"+b+"/b"+b, 0, at(name("a"), 1), 2, api.OK)
		checkNext(t, b+"a"+b+"7"+b+"/b"+b, 2, at(tok(api.TInt, 7, ""), 3), 4, api.OK)
		checkNext(t, b+"a"+b+"7"+b+"/b"+b, 4, at(tok(api.TLit, 0, "b"), 5), 7, api.OK)
		checkNext(t, b+"a"+b+"7"+b+"/b"+b, 7, api.Token{}, 8, api.OK)
		checkNext(t, "/"+b+"a", 0, tok(api.TLit, 0, ""), 1, api.OK)
		checkNext(t, "//"+b+"a", 0, tok(api.TNow, 0, ""), 2, api.OK)
		checkNext(t, "/"+b+"/a", 0, tok(api.TLit, 0, ""), 1, api.OK)
		checkNext(t, "<"+b+"<", 0, api.Token{}, 0, api.ErrForm)
		checkNext(t, ">"+b+">", 0, api.Token{}, 0, api.ErrForm)
	}
	checkNext(t, blanks+blanks, 0, api.Token{}, 12, api.OK)
	checkNext(t, blanks+blanks+"]", 0, at(tok(api.TRight, 0, ""), 12), 13, api.OK)
	for _, s := range []string{"\x01", "\b", "\v", "\x0e", "\x1f", "\x7f", "\x85", "\xa0", "\xff", "\u00a0", "\u3000"} {
		checkOne(t, s, name(s))
		checkOne(t, s+"7", name(s+"7"))
	}
}

// P8.1: comments, and where they end.
func TestNextComments(t *testing.T) {
	for _, c := range []struct {
		s    string
		at   int
		want api.Token
		next int
	}{
		{"%", 0, api.Token{}, 1}, {"%a", 0, api.Token{}, 2}, {"a%b", 0, name("a"), 1}, {"a%b", 1, api.Token{}, 3}, {"a%b", 2, at(name("b"), 2), 3},
		{"%a\n", 0, api.Token{}, 3}, {"%a\r", 0, api.Token{}, 3}, {"%\n", 0, api.Token{}, 2}, {"%\r\n%\n\r", 0, api.Token{}, 6},
		{"%a\nb", 0, at(name("b"), 3), 4}, {"%a\rb", 0, at(name("b"), 3), 4}, {"%a\r\nb", 0, at(name("b"), 4), 5}, {"%\nb", 0, at(name("b"), 2), 3}, {"%\rb", 0, at(name("b"), 2), 3},
		{"%a\fb\x00c\td e\n1", 0, at(tok(api.TInt, 1, ""), 11), 12}, {"%a\u0085b\u2028c\vd", 0, api.Token{}, 11}, {"%\xff\xfe\n/", 0, at(tok(api.TLit, 0, ""), 4), 5},
		{"%(\n1", 0, at(tok(api.TInt, 1, ""), 3), 4}, {"%)>%<<{\n1", 0, at(tok(api.TInt, 1, ""), 8), 9},
		{"%a\n%b\r%c", 0, api.Token{}, 8}, {"%a\n%b\r%c", 3, api.Token{}, 8}, {"%a\n %b\r\t%c\n}", 0, at(tok(api.TClose, 0, ""), 11), 12}, {"%%\n%%\n1", 0, at(tok(api.TInt, 1, ""), 6), 7},
		{"/%a\n", 0, tok(api.TLit, 0, ""), 1}, {"//%a\n", 0, tok(api.TNow, 0, ""), 2}, {"/%\n/a", 0, tok(api.TLit, 0, ""), 1}, {"(%)", 0, tok(api.TString, 0, "%"), 3}, {"(%\n)", 0, tok(api.TString, 0, "%\n"), 4}, {"1%2\n", 0, tok(api.TInt, 1, ""), 1},
	} {
		checkNext(t, c.s, c.at, c.want, c.next, api.OK)
	}
	checkNext(t, "%(\n)", 0, api.Token{}, 3, api.ErrForm)
	checkNext(t, "%(a\r<%\n>", 0, api.Token{}, 4, api.ErrForm)
	// Every byte but two goes on with the comment.
	for c := range 256 {
		s := "%" + string([]byte{byte(c)}) + "7"
		if c == '\n' || c == '\r' {
			checkNext(t, s, 0, at(tok(api.TInt, 7, ""), 2), 3, api.OK)
		} else {
			checkNext(t, s, 0, api.Token{}, 3, api.OK)
		}
	}
	long := strings.Repeat("% x\n \r", 20000)
	checkNext(t, long+"]", 0, at(tok(api.TRight, 0, ""), len(long)), len(long)+1, api.OK)
}

// P8.1: the angle brackets and the parenthesis, at the end and before other bytes.
func TestNextBrackets(t *testing.T) {
	begin, end := tok(api.TBegin, 0, ""), tok(api.TEnd, 0, "")
	for _, c := range []struct {
		s    string
		want api.Token
		next int
	}{
		{"<<", begin, 2}, {"<<<", begin, 2}, {"<<<<", begin, 2}, {"<<>>", begin, 2}, {"<<~", begin, 2}, {"<<41>", begin, 2}, {"<<a", begin, 2}, {"<< ", begin, 2}, {"<<)", begin, 2},
		{">>", end, 2}, {">>>", end, 2}, {">>>>", end, 2}, {">><", end, 2}, {">>a", end, 2}, {">> ", end, 2}, {">>)", end, 2},
		{"<>", tok(api.TString, 0, ""), 2}, {"<>>", tok(api.TString, 0, ""), 2}, {"<41>>", tok(api.TString, 0, "A"), 4}, {"<4>>>", tok(api.TString, 0, "@"), 3}, {"<~~>", tok(api.TString, 0, ""), 4}, {"<~~>>", tok(api.TString, 0, ""), 4}, {"<~z~>", tok(api.TString, 0, "\x00\x00\x00\x00"), 5},
	} {
		checkNext(t, c.s, 0, c.want, c.next, api.OK)
		checkNext(t, "{ "+c.s, 1, at(c.want, 2), c.next+2, api.OK)
	}
	for s, e := range map[string]api.Errno{
		"<": api.ErrEnd, "<~": api.ErrEnd, "< ": api.ErrEnd, "< <": api.ErrForm, "<a": api.ErrEnd, "<g": api.ErrForm, "<(": api.ErrForm, "<%": api.ErrForm, "<~<": api.ErrEnd, "<~>": api.ErrEnd, "<~~": api.ErrEnd, "<~~<": api.ErrForm,
		">": api.ErrForm, "> ": api.ErrForm, "> >": api.ErrForm, ">a": api.ErrForm, "><": api.ErrForm, ">%\n>": api.ErrForm, ">)": api.ErrForm, ">~": api.ErrForm,
		")": api.ErrForm, "))": api.ErrForm, ")(": api.ErrForm, ")a": api.ErrForm, ") ": api.ErrForm, ")>>": api.ErrForm,
	} {
		checkFault(t, s, e)
	}
	checkNext(t, "())", 2, api.Token{}, 2, api.ErrForm)
	checkNext(t, "<<>", 2, api.Token{}, 2, api.ErrForm)
	checkNext(t, ">>>", 1, at(end, 1), 3, api.OK)
	checkNext(t, "<<<", 1, at(begin, 1), 3, api.OK)
}

// P8.1: names behind slashes, the empty one too.
func TestNextSlashes(t *testing.T) {
	lit, now := tok(api.TLit, 0, ""), tok(api.TNow, 0, "")
	for _, c := range []struct {
		s        string
		at, next int
		want     api.Token
	}{
		{"/", 0, 1, lit}, {"//", 0, 2, now}, {"//", 1, 2, at(lit, 1)}, {"///", 0, 2, now}, {"///", 2, 3, at(lit, 2)}, {"////", 0, 2, now}, {"////", 2, 4, at(now, 2)}, {"///a", 2, 4, at(tok(api.TLit, 0, "a"), 2)}, {"////a", 2, 5, at(tok(api.TNow, 0, "a"), 2)},
		{"/a/b", 0, 2, tok(api.TLit, 0, "a")}, {"/a/b", 2, 4, at(tok(api.TLit, 0, "b"), 2)}, {"/a//b", 2, 5, at(tok(api.TNow, 0, "b"), 2)}, {"a/b", 0, 1, name("a")}, {"1/b", 0, 1, tok(api.TInt, 1, "")}, {"/(", 0, 1, lit}, {"//)", 0, 2, now}, {"/{", 0, 1, lit}, {"//>", 0, 2, now},
		{"/99999999999", 0, 12, tok(api.TLit, 0, "99999999999")}, {"//+1.25", 0, 7, tok(api.TNow, 0, "+1.25")}, {"/~\\#\xff", 0, 5, tok(api.TLit, 0, "~\\#\xff")},
	} {
		checkNext(t, c.s, c.at, c.want, c.next, api.OK)
	}
}

// P8.1: names of MaxName bytes, and of one more.
func TestNextLongNames(t *testing.T) {
	for _, piece := range []string{"n", "-", "\xff", "é", "7x", "+#.e"} {
		full := strings.Repeat(piece, api.MaxName/len(piece))
		checkOne(t, full, name(full))
		checkOne(t, "/"+full, tok(api.TLit, 0, full))
		checkOne(t, "//"+full, tok(api.TNow, 0, full))
		for _, more := range []string{"n", "7", "nn", full, strings.Repeat("n", 30000)} {
			for _, s := range []string{full + more, "/" + full + more, "//" + full + more} {
				checkFault(t, s, api.ErrLimit)
				checkFault(t, s+"{", api.ErrLimit)
				checkFault(t, s+" )", api.ErrLimit)
			}
		}
	}
	// Behind a slash, a long number is a long name.
	digits := strings.Repeat("0", api.MaxName)
	checkOne(t, "/"+digits, tok(api.TLit, 0, digits))
	checkOne(t, "//"+digits, tok(api.TNow, 0, digits))
	checkFault(t, "/0"+digits, api.ErrLimit)
	checkFault(t, "//0"+digits, api.ErrLimit)
	// The second slash belongs to no name.
	checkNext(t, "/"+digits+"/", 0, tok(api.TLit, 0, digits), api.MaxName+1, api.OK)
}

// P8.1: regular bytes, as Read parses them or not.
func TestNextWords(t *testing.T) {
	zeros := strings.Repeat("0", 500)
	for s, want := range map[string]api.Token{
		"0": tok(api.TInt, 0, ""), "-0": tok(api.TInt, 0, ""), "+7": tok(api.TInt, 7, ""), "007": tok(api.TInt, 7, ""), "2147483647": tok(api.TInt, api.MaxInt, ""), "-2147483647": tok(api.TInt, -api.MaxInt, ""),
		"2#101": tok(api.TInt, 5, ""), "16#FF": tok(api.TInt, 255, ""), "36#zZ": tok(api.TInt, 1295, ""), "16#7fffffff": tok(api.TInt, api.MaxInt, ""),
		"1.0": tok(api.TFix, 65536, ""), ".5": tok(api.TFix, 32768, ""), "5.": tok(api.TFix, 327680, ""), "-1.25": tok(api.TFix, -81920, ""), "16383.99999": tok(api.TFix, api.MaxFix, ""), "-16383.99999": tok(api.TFix, -api.MaxFix, ""), "0.00001": tok(api.TFix, 1, ""), "-0.0": tok(api.TFix, 0, ""), "0.000007": tok(api.TFix, 0, ""),
		// Numbers have no limit of MaxName bytes.
		zeros: tok(api.TInt, 0, ""), "-" + zeros + "12": tok(api.TInt, -12, ""), zeros + ".5": tok(api.TFix, 32768, ""), "16#" + zeros + "a": tok(api.TInt, 10, ""),
		"+": name("+"), "-": name("-"), ".": name("."), "+.": name("+."), "#": name("#"), "16#": name("16#"), "16#G": name("16#G"), "1#0": name("1#0"), "37#0": name("37#0"), "02#1": name("02#1"), "-16#F": name("-16#F"), "16#-1": name("16#-1"), "16#1#1": name("16#1#1"), "2#2": name("2#2"), "1e3": name("1e3"), "--1": name("--1"), "1-": name("1-"), "1.2.3": name("1.2.3"), "1,5": name("1,5"), "99999999999x": name("99999999999x"), "\"": name("\""), "~": name("~"),
	} {
		checkOne(t, s, want)
	}
	for _, s := range []string{
		"2147483648", "-2147483648", "9999999999", "+" + strings.Repeat("9", 3000), "16#80000000", "36#" + strings.Repeat("z", 3000), "2#1" + zeros,
		"16384.0", "16384.5", "-16384.0", "16383.999999", "99999999999999999999.5", "0.0000000000001", "1.0000000000000", "." + zeros,
	} {
		checkFault(t, s, api.ErrRange)
		checkFault(t, s+")", api.ErrRange)
		checkFault(t, s+" a", api.ErrRange)
	}
}

// P8.1: the errors of string literals are those of Take.
func TestNextStrings(t *testing.T) {
	full := strings.Repeat("s", api.MaxString)
	checkOne(t, "("+full+")", tok(api.TString, 0, full))
	checkOne(t, quote.Hex(full), tok(api.TString, 0, full))
	checkOne(t, quote.Eighty(full), tok(api.TString, 0, full))
	for s, e := range map[string]api.Errno{
		"(": api.ErrEnd, "(a": api.ErrEnd, "(()": api.ErrEnd, "(\\)": api.ErrEnd, "(\\": api.ErrEnd,
		"(" + full + "s)": api.ErrLimit, "(" + full + "s": api.ErrLimit, "(" + full: api.ErrEnd,
		"<4": api.ErrEnd, "<4g>": api.ErrForm, "<4\xff>": api.ErrForm, "<41~>": api.ErrForm, "<%\n>": api.ErrForm, quote.Hex(full + "s"): api.ErrLimit, "<" + strings.Repeat("61", api.MaxString) + "6>": api.ErrLimit,
		"<~z": api.ErrEnd, "<~z~": api.ErrEnd, "<~!~>": api.ErrForm, "<~v~>": api.ErrForm, "<~!z~>": api.ErrForm, "<~uuuuu~>": api.ErrForm, "<~uu~>": api.ErrForm, "<~!!~ >": api.ErrForm, quote.Eighty(full + "s"): api.ErrLimit,
	} {
		checkFault(t, s, e)
	}
	for _, b := range []string{"", "a", "(", ")", "\\", "%", "\n", "\r\n", "<<", ">>", "//", allBytes()} {
		checkOne(t, quote.Paren(b), tok(api.TString, 0, b))
		checkOne(t, quote.Hex(b), tok(api.TString, 0, b))
		checkOne(t, quote.Eighty(b), tok(api.TString, 0, b))
	}
}

// allBytes is a string of all bytes, in order.
func allBytes() string {
	b := make([]byte, 256)
	for i := range b {
		b[i] = byte(i)
	}
	return string(b)
}

var (
	skipped = regexp.MustCompile(`^(?:[\x00\t\n\f\r ]|%[^\n\r]*)*`)
	slashed = regexp.MustCompile(`^(//?)([^\x00\t\n\f\r ()<>\[\]{}/%]*)`)
	worded  = regexp.MustCompile(`^[^\x00\t\n\f\r ()<>\[\]{}/%]+`)
	symbol  = regexp.MustCompile(`^(?:[{}\[\]]|<<|>>)`)
)

// described is what P8.1 says that Next returns.
func described(s string, offset int) (t api.Token, next int, e api.Errno) {
	if offset < 0 || offset > len(s) {
		return t, 0, api.ErrArg
	}
	offset += len(skipped.FindString(s[offset:]))
	rest, n := s[offset:], 0
	if rest == "" {
		return t, offset, api.OK
	}
	if found := symbol.FindString(rest); found != "" {
		kinds := map[string]int{"{": api.TOpen, "}": api.TClose, "[": api.TLeft, "]": api.TRight, "<<": api.TBegin, ">>": api.TEnd}
		t, n = tok(kinds[found], 0, ""), len(found)
	} else if found := slashed.FindStringSubmatch(rest); found != nil {
		t, n = tok(map[string]int{"/": api.TLit, "//": api.TNow}[found[1]], 0, found[2]), len(found[0])
	} else if found := worded.FindString(rest); found != "" {
		n = len(found)
		t.Kind, t.N, e = numtext.Read(found)
		if e == api.ErrForm {
			t, e = name(found), api.OK
		}
	} else if rest[0] == '(' || rest[0] == '<' {
		t.Kind = api.TString
		t.S, n, e = quote.Take(rest)
	} else {
		e = api.ErrForm
	}
	if t.Kind != api.TString && len(t.S) > api.MaxName {
		e = api.ErrLimit
	}
	if e != api.OK {
		return api.Token{}, offset, e
	}
	return at(t, offset), offset + n, api.OK
}

// checkDescribed checks Next at all offsets of s, and one before and after them.
func checkDescribed(t *testing.T, s string) {
	t.Helper()
	for offset := -1; offset <= len(s)+1; offset++ {
		want, next, e := described(s, offset)
		checkNext(t, s, offset, want, next, e)
	}
}

// eachString calls check with all strings of up to most of the bytes.
func eachString(bytes string, most int, check func(s string)) {
	var grow func(s string)
	grow = func(s string) {
		check(s)
		for i := range len(bytes) {
			if len(s) < most {
				grow(s + bytes[i:i+1])
			}
		}
	}
	grow("")
}

// P8.1
func TestNextOfAllShortStrings(t *testing.T) {
	eachString("a1.#-/<>~()[{% \n\\z\xff", 3, func(s string) { checkDescribed(t, s) })
	eachString("a/<>%\n ", 5, func(s string) { checkDescribed(t, s) })
	eachString("/<>%\r", 6, func(s string) { checkDescribed(t, s) })
	for c := range 256 {
		for d := range 256 {
			checkDescribed(t, string([]byte{byte(c), byte(d)}))
		}
	}
}

// P8.1
func TestNextOfManyStrings(t *testing.T) {
	random := rand.New(rand.NewPCG(8, 1))
	texts, _ := samples()
	texts = append(texts, " ", "\n", "\r", "%", ">", ")", "<", "(", "~", "~>", "9999999999", "0.0000000000001", strings.Repeat("m", 99), strings.Repeat("0", 99), "\xfe", "\x00")
	for range 8000 {
		var s []byte
		for range random.IntN(8) {
			s = append(s, texts[random.IntN(len(texts))]...)
			if random.IntN(8) == 0 {
				s = append(s, byte(random.IntN(256)))
			}
		}
		offset := random.IntN(len(s) + 1)
		for _, offset := range []int{0, offset} {
			want, next, e := described(string(s), offset)
			checkNext(t, string(s), offset, want, next, e)
		}
	}
}

// checkAll checks All of a text in which each error and each offset are known.
func checkAll(t *testing.T, s string, want []api.Token, offset int, e api.Errno) {
	t.Helper()
	got, gotOffset, gotE := All(s)
	if !slices.Equal(got, want) || gotOffset != offset || gotE != e {
		t.Errorf("All(%.60q) of %d bytes = %d tokens %s, %d, %d, want %d tokens %s, %d, %d", s, len(s), len(got), brief(got), gotOffset, gotE, len(want), brief(want), offset, e)
	}
}

// P8.2
func TestAllRows(t *testing.T) {
	for _, c := range []struct {
		s    string
		want []api.Token
	}{
		{"", nil}, {" ", nil}, {"%", nil}, {"%)\n \x00", nil},
		{"a", []api.Token{name("a")}}, {" a", []api.Token{at(name("a"), 1)}}, {" a ", []api.Token{at(name("a"), 1)}},
		{"1 (a)}", []api.Token{tok(api.TInt, 1, ""), at(tok(api.TString, 0, "a"), 2), at(tok(api.TClose, 0, ""), 5)}},
		{"/x{1.5 //y}def%end", []api.Token{tok(api.TLit, 0, "x"), at(tok(api.TOpen, 0, ""), 2), at(tok(api.TFix, 98304, ""), 3), at(tok(api.TNow, 0, "y"), 7), at(tok(api.TClose, 0, ""), 10), at(name("def"), 11)}},
		{"<</a<41>>>", []api.Token{tok(api.TBegin, 0, ""), at(tok(api.TLit, 0, "a"), 2), at(tok(api.TString, 0, "A"), 4), at(tok(api.TEnd, 0, ""), 8)}},
		{"[[]]}{", []api.Token{tok(api.TLeft, 0, ""), at(tok(api.TLeft, 0, ""), 1), at(tok(api.TRight, 0, ""), 2), at(tok(api.TRight, 0, ""), 3), at(tok(api.TClose, 0, ""), 4), at(tok(api.TOpen, 0, ""), 5)}},
	} {
		checkAll(t, c.s, c.want, 0, api.OK)
	}
	for _, c := range []struct {
		s  string
		at int
		e  api.Errno
	}{
		{")", 0, api.ErrForm}, {" )", 1, api.ErrForm}, {"a b )", 4, api.ErrForm}, {"a>", 1, api.ErrForm}, {"{}> >", 2, api.ErrForm},
		{"1 (", 2, api.ErrEnd}, {"1 (2 (3) 4", 2, api.ErrEnd}, {"a<", 1, api.ErrEnd}, {"a <4g>", 2, api.ErrForm}, {"%(\n<~", 3, api.ErrEnd},
		{"a 9999999999 )", 2, api.ErrRange}, {"a/b\n0.0000000000001", 4, api.ErrRange}, {"a /" + strings.Repeat("n", 101), 2, api.ErrLimit}, {"a" + strings.Repeat("n", 100), 0, api.ErrLimit}, {"1 2 //" + strings.Repeat("n", 101) + ")", 4, api.ErrLimit},
		// The first one of several errors.
		{") 9999999999", 0, api.ErrForm}, {"9999999999 )", 0, api.ErrRange}, {"a ) (", 2, api.ErrForm},
	} {
		checkAll(t, c.s, nil, c.at, c.e)
	}
}

// P8.2: the limit of a text.
func TestAllOfLongTexts(t *testing.T) {
	for _, end := range []string{"", " ", "\n", "a", "/", "{"} {
		var want []api.Token
		if l, _, e := All(end); e == api.OK && len(l) == 1 {
			want = []api.Token{at(l[0], api.MaxText-len(end))}
		}
		checkAll(t, strings.Repeat(" ", api.MaxText-len(end))+end, want, 0, api.OK)
		checkAll(t, strings.Repeat("%", api.MaxText-1-len(end))+"\r"+end, want, 0, api.OK)
		checkAll(t, strings.Repeat(" ", api.MaxText+1-len(end))+end, nil, 0, api.ErrLimit)
		checkAll(t, strings.Repeat("%", api.MaxText+1-len(end))+end, nil, 0, api.ErrLimit)
	}
	// One byte is too much, whatever else is wrong.
	checkAll(t, strings.Repeat(" ", api.MaxText-1)+")", nil, api.MaxText-1, api.ErrForm)
	checkAll(t, ")"+strings.Repeat(" ", api.MaxText-1), nil, 0, api.ErrForm)
	checkAll(t, " )"+strings.Repeat(" ", api.MaxText-1), nil, 0, api.ErrLimit)
	checkAll(t, " 9999999999"+strings.Repeat(" ", api.MaxText), nil, 0, api.ErrLimit)
	checkAll(t, strings.Repeat("{", api.MaxText), nil, api.MaxTokens, api.ErrLimit)
	checkAll(t, strings.Repeat("{", api.MaxText+1), nil, 0, api.ErrLimit)
	checkAll(t, strings.Repeat("n", api.MaxText), nil, 0, api.ErrLimit)
	checkAll(t, " "+strings.Repeat("n", api.MaxText-1), nil, 1, api.ErrLimit)
}

// P8.2: the limit of tokens.
func TestAllOfManyTokens(t *testing.T) {
	texts, tokens := samples()
	for i, one := range texts {
		if len(one) > 3 {
			continue
		}
		s := strings.Repeat(one+" ", api.MaxTokens)
		var want []api.Token
		for j := range api.MaxTokens {
			want = append(want, at(tokens[i], j*(len(one)+1)))
		}
		checkAll(t, s, want, 0, api.OK)
		checkAll(t, s[:len(s)-1], want, 0, api.OK)
		checkAll(t, s+" \n%)", want, 0, api.OK)
		for _, more := range texts {
			checkAll(t, s+more, nil, len(s), api.ErrLimit)
			checkAll(t, s+" %\n"+more+" )", nil, len(s)+3, api.ErrLimit)
		}
		// An error of the token that is one too many takes precedence.
		for more, e := range map[string]api.Errno{")": api.ErrForm, ">": api.ErrForm, "(": api.ErrEnd, "9999999999": api.ErrRange, "<g>": api.ErrForm, "//" + strings.Repeat("n", 101): api.ErrLimit} {
			checkAll(t, s+more, nil, len(s), e)
			checkAll(t, s+"  "+more+" 1 1", nil, len(s)+2, e)
		}
		// So does an error of a token before it.
		checkAll(t, s[len(one)+1:]+")"+s[:2*len(one)+2], nil, len(s)-len(one)-1, api.ErrForm)
		checkAll(t, "9999999999 "+s, nil, 0, api.ErrRange)
	}
}

// described2 is what P8.2 says that All returns for a text within MaxText, out of what Next returns.
func described2(s string) (l []api.Token, offset int, e api.Errno) {
	for next := 0; ; {
		t, n, e := described(s, next)
		switch {
		case e != api.OK:
			return nil, n, e
		case t == api.Token{}:
			return l, 0, api.OK
		}
		l, next = append(l, t), n
	}
}

// P8.2
func TestAllOfAllShortStrings(t *testing.T) {
	check := func(s string) {
		want, offset, e := described2(s)
		checkAll(t, s, want, offset, e)
	}
	eachString("a1./<>~()]% \n", 4, check)
	eachString("a/<>%\r", 6, check)
}
