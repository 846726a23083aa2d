package pack

import (
	"encoding/binary"
	"fmt"
	"math"
	"math/rand/v2"
	"slices"
	"strings"
	"testing"

	"tympan/api"
	"tympan/token"
)

// four is how a packed sequence begins, listed anew here.
var four = string([]byte{244, 84, 80, 1})

var everyKind = []int{api.TInt, api.TFix, api.TName, api.TLit, api.TNow, api.TString, api.TOpen, api.TClose, api.TLeft, api.TRight, api.TBegin, api.TEnd}

// named are the kinds of tokens that have an S.
var named = []int{api.TName, api.TLit, api.TNow, api.TString}

// tok is a token without an offset.
func tok(kind, n int, s string) api.Token { return api.Token{Kind: kind, N: n, S: s} }

// bare is a copy of the tokens without their offsets.
func bare(l []api.Token) []api.Token {
	l = slices.Clone(l)
	for i := range l {
		l[i].At = 0
	}
	return l
}

// brief is the beginning of what is told of the values.
func brief(l ...any) string { return fmt.Sprintf("%.200s", fmt.Sprintf("%q", l)) }

// allBytes is a string of all 256 bytes.
func allBytes() string {
	var b []byte
	for c := range 256 {
		b = append(b, byte(c))
	}
	return string(b)
}

// packed is the packed sequence of the tokens, with the library's varints.
func packed(l ...api.Token) string {
	b := []byte(four)
	for _, one := range l {
		b = append(b, byte(one.Kind))
		switch {
		case one.Kind == api.TInt || one.Kind == api.TFix:
			b = binary.AppendVarint(b, int64(one.N))
		case slices.Contains(named, one.Kind):
			b = binary.AppendUvarint(b, uint64(len(one.S)))
			b = append(b, one.S...)
		}
	}
	return string(b)
}

// checkPut checks what Put returns, and that neither the tokens nor what lies behind them is changed.
func checkPut(t *testing.T, l []api.Token, want string, e api.Errno) {
	t.Helper()
	behind := tok(-7, 8, "behind")
	all := slices.Concat(l, []api.Token{behind, behind})
	kept := slices.Clone(all)
	got, gotE := Put(all[:len(l)])
	if string(got) != want || gotE != e {
		t.Errorf("Put of %d tokens %s = %.60q of %d bytes, %d, want %.60q of %d bytes, %d", len(l), brief(l), got, len(got), gotE, want, len(want), e)
	}
	if !slices.Equal(kept, all) {
		t.Errorf("Put changed %s to %s", brief(kept), brief(all))
	}
}

// P9.1
func TestIs(t *testing.T) {
	for _, b := range [][]byte{nil, {}} {
		if Is(b) {
			t.Errorf("Is(%v) = true", b)
		}
	}
	for n := range len(four) {
		if Is([]byte(four[:n])) {
			t.Errorf("Is of the first %d bytes = true", n)
		}
		// The bytes behind a prefix do not count, not even if they would make it whole.
		if Is([]byte(four)[:n]) {
			t.Errorf("Is of %d bytes with the others behind them = true", n)
		}
	}
	for _, more := range []string{"", "\x00", "\x01", "\x07", "\x0d", "a", "\xff\xff", "\x01\x80", four, allBytes(), strings.Repeat("x", api.MaxText), strings.Repeat("\x07", 5*api.MaxText)} {
		b := []byte(four + more)
		if !Is(b) || string(b) != four+more {
			t.Errorf("Is of the four bytes and %.20q = false, or it changed them", more)
		}
		for i := range four {
			for c := range 256 {
				b[i] = byte(c)
				if want := byte(c) == four[i]; Is(b) != want {
					t.Errorf("Is(%.20q) = %v", b, !want)
				}
			}
			b[i] = four[i]
		}
		for _, before := range []string{"\x00", " ", "\xf4", "\xf4T"} {
			if s := before + four + more; Is([]byte(s)) {
				t.Errorf("Is(%.20q) = true", s)
			}
		}
	}
}

// P9.2
func TestPutRows(t *testing.T) {
	checkPut(t, nil, "\xf4TP\x01", api.OK)
	checkPut(t, []api.Token{}, "\xf4TP\x01", api.OK)
	for _, c := range []struct {
		one  api.Token
		want string
	}{
		{tok(api.TInt, -1, ""), "\x01\x01"}, {tok(api.TInt, 0, ""), "\x01\x00"}, {tok(api.TInt, 1, ""), "\x01\x02"}, {tok(api.TInt, -2, ""), "\x01\x03"}, {tok(api.TInt, 150, ""), "\x01\xac\x02"},
		{tok(api.TInt, api.MaxInt, ""), "\x01\xfe\xff\xff\xff\x0f"}, {tok(api.TInt, -api.MaxInt, ""), "\x01\xfd\xff\xff\xff\x0f"},
		{tok(api.TFix, 0, ""), "\x02\x00"}, {tok(api.TFix, 65536, ""), "\x02\x80\x80\x08"}, {tok(api.TFix, -65536, ""), "\x02\xff\xff\x07"}, {tok(api.TFix, api.MaxFix, ""), "\x02\xfe\xff\xff\xff\x07"}, {tok(api.TFix, -api.MaxFix, ""), "\x02\xfd\xff\xff\xff\x07"},
		{tok(api.TName, 0, "a"), "\x03\x01a"}, {tok(api.TName, 0, "show"), "\x03\x04show"}, {tok(api.TLit, 0, ""), "\x04\x00"}, {tok(api.TLit, 0, "12"), "\x04\x0212"}, {tok(api.TNow, 0, ""), "\x05\x00"}, {tok(api.TNow, 0, "é"), "\x05\x02\xc3\xa9"},
		{tok(api.TString, 0, ""), "\x06\x00"}, {tok(api.TString, 0, "\x00\xff/%"), "\x06\x04\x00\xff/%"}, {tok(api.TString, 0, four), "\x06\x04\xf4TP\x01"},
		{tok(api.TOpen, 0, ""), "\x07"}, {tok(api.TClose, 0, ""), "\x08"}, {tok(api.TLeft, 0, ""), "\x09"}, {tok(api.TRight, 0, ""), "\x0a"}, {tok(api.TBegin, 0, ""), "\x0b"}, {tok(api.TEnd, 0, ""), "\x0c"},
	} {
		checkPut(t, []api.Token{c.one}, four+c.want, api.OK)
		checkPut(t, []api.Token{c.one, c.one}, four+c.want+c.want, api.OK)
		checkPut(t, []api.Token{tok(api.TLit, 0, ""), c.one, tok(api.TInt, 64, "")}, four+"\x04\x00"+c.want+"\x01\x80\x01", api.OK)
		for _, offset := range []int{1, -1, 4, api.MaxText + 1, math.MaxInt, math.MinInt} {
			one := c.one
			one.At = offset
			checkPut(t, []api.Token{one}, four+c.want, api.OK)
		}
	}
}

// edges are numbers at which the bytes of a number change, and their number of bytes.
func edges() map[int]int {
	l := map[int]int{0: 1, 1: 1, -1: 1, api.MaxFix: 5, -api.MaxFix: 5, api.MaxFix + 1: 5, api.MaxInt - 1: 5, api.MaxInt: 5, -api.MaxInt: 5}
	for size := 1; size < 5; size++ {
		first := 1 << (7*size - 1) // 2 first is the least number of one more byte
		l[first-1], l[-first] = size, size
		l[first], l[-first-1] = size+1, size+1
	}
	return l
}

// P9.2: numbers of each number of bytes.
func TestPutNumbers(t *testing.T) {
	for n, size := range edges() {
		for _, kind := range []int{api.TInt, api.TFix} {
			one := tok(kind, n, "")
			if kind == api.TFix && max(n, -n) > api.MaxFix {
				checkPut(t, []api.Token{one}, "", api.ErrArg)
				continue
			}
			checkPut(t, []api.Token{one, one}, packed(one, one), api.OK)
			if got, e := Put([]api.Token{one}); len(got) != len(four)+1+size || e != api.OK {
				t.Errorf("Put of the number %d = %q, %d, want %d bytes of it", n, got, e, size)
			}
		}
	}
	for n := -70000; n <= 70000; n += 7 {
		checkPut(t, []api.Token{tok(api.TInt, n, ""), tok(api.TFix, n*300, "")}, packed(tok(api.TInt, n, ""), tok(api.TFix, n*300, "")), api.OK)
	}
}

// P9.2: names and strings of each length that matters, and of all bytes.
func TestPutBytes(t *testing.T) {
	for _, n := range []int{0, 1, 2, 99, api.MaxName, api.MaxName + 1, 127, 128, 129, 255, 256, api.MaxString - 1, api.MaxString, api.MaxString + 1, api.MaxText, 100000} {
		for _, kind := range named {
			one := tok(kind, 0, strings.Repeat("n", n))
			if kind == api.TString && n <= 4000 || n <= 100 && (n > 0 || kind != api.TName) {
				checkPut(t, []api.Token{one}, packed(one), api.OK)
			} else {
				checkPut(t, []api.Token{one}, "", api.ErrArg)
			}
		}
	}
	checkPut(t, []api.Token{tok(api.TString, 0, allBytes())}, four+"\x06\x80\x02"+allBytes(), api.OK)
	for c := range 256 {
		s := string([]byte{byte(c)})
		checkPut(t, []api.Token{tok(api.TString, 0, s)}, four+"\x06\x01"+s, api.OK)
		regular := !strings.Contains("\x00\t\n\f\r ()<>[]{}/%", s)
		for _, kind := range named[:3] {
			one := tok(kind, 0, "x"+s)
			if regular {
				checkPut(t, []api.Token{one}, four+string([]byte{byte(kind), 2, 'x', byte(c)}), api.OK)
			} else {
				checkPut(t, []api.Token{one}, "", api.ErrArg)
			}
		}
	}
}

// invalid are tokens that no text contains.
func invalid() []api.Token {
	l := []api.Token{
		{}, {At: 4}, tok(-1, 0, ""), tok(13, 0, ""), tok(256, 0, ""), tok(257, 0, ""), tok(256+api.TOpen, 0, ""), tok(math.MaxInt, 0, ""), tok(math.MinInt, 0, ""),
		tok(api.TInt, api.MaxInt+1, ""), tok(api.TInt, -api.MaxInt-1, ""), tok(api.TInt, math.MaxInt, ""), tok(api.TInt, math.MinInt, ""), tok(api.TInt, 1<<32, ""), tok(api.TInt, 1, "1"),
		tok(api.TFix, api.MaxFix+1, ""), tok(api.TFix, -api.MaxFix-1, ""), tok(api.TFix, math.MaxInt, ""), tok(api.TFix, math.MinInt, ""), tok(api.TFix, 0, "x"),
		tok(api.TName, 0, ""), tok(api.TName, 0, "1"), tok(api.TName, 0, "1.5"), tok(api.TName, 0, "16#f"), tok(api.TName, 0, "99999999999"), tok(api.TName, 0, "a b"), tok(api.TName, 0, "/a"), tok(api.TName, 0, strings.Repeat("n", api.MaxName+1)), tok(api.TName, 1, "a"),
		tok(api.TLit, 0, "/"), tok(api.TLit, 0, "a\x00"), tok(api.TLit, -1, "a"), tok(api.TNow, 0, "("), tok(api.TNow, 1, ""), tok(api.TNow, 0, strings.Repeat("n", api.MaxName+1)),
		tok(api.TString, 0, strings.Repeat("s", api.MaxString+1)), tok(api.TString, 1, "a"),
	}
	for _, kind := range everyKind[6:] {
		l = append(l, tok(kind, 1, ""), tok(kind, 0, "{"))
	}
	return l
}

// P9.2: a token that is not valid, alone and among valid ones.
func TestPutInvalid(t *testing.T) {
	good := tok(api.TName, 0, "a")
	for _, bad := range invalid() {
		for _, l := range [][]api.Token{{bad}, {bad, good}, {good, bad}, {good, bad, good}, {bad, bad}} {
			checkPut(t, l, "", api.ErrArg)
		}
		if b, e := Put([]api.Token{good, bad}); b != nil || e != api.ErrArg {
			t.Errorf("Put of %s = %q, %d", brief(bad), b, e)
		}
	}
}

// P9.2: the limit of tokens, and that a token that is not valid takes precedence.
func TestPutOfManyTokens(t *testing.T) {
	for _, one := range []api.Token{tok(api.TOpen, 0, ""), tok(api.TLit, 0, ""), tok(api.TInt, 70000, ""), tok(api.TString, 0, "ab")} {
		l := slices.Repeat([]api.Token{one}, api.MaxTokens)
		checkPut(t, l[1:], packed(l[1:]...), api.OK)
		checkPut(t, l, packed(l...), api.OK)
		checkPut(t, append(l, one), "", api.ErrLimit)
		checkPut(t, slices.Concat(l, l), "", api.ErrLimit)
		bad := tok(api.TOpen, 1, "")
		checkPut(t, append(l, bad), "", api.ErrArg)
		checkPut(t, append([]api.Token{bad}, l...), "", api.ErrArg)
		checkPut(t, slices.Concat(l, l, []api.Token{bad}), "", api.ErrArg)
	}
}

// filled is tokens whose packed sequence has n bytes, 16019 to 20016 of them.
func filled(n int) []api.Token {
	long := tok(api.TString, 0, strings.Repeat("s", api.MaxString))
	rest := n - len(four) - 4*(3+api.MaxString)
	lead := 2
	if rest > 2+127 {
		lead = 3
	}
	return []api.Token{long, long, long, long, tok(api.TString, 0, strings.Repeat("r", rest-lead))}
}

// samples are valid tokens, some of each kind.
func samples() []api.Token {
	l := []api.Token{
		tok(api.TInt, 0, ""), tok(api.TInt, -1, ""), tok(api.TInt, 64, ""), tok(api.TInt, -9000, ""), tok(api.TInt, api.MaxInt, ""), tok(api.TInt, -api.MaxInt, ""), tok(api.TFix, 0, ""), tok(api.TFix, -65536, ""), tok(api.TFix, api.MaxFix, ""), tok(api.TFix, -api.MaxFix, ""),
		tok(api.TName, 0, "a"), tok(api.TName, 0, "+"), tok(api.TName, 0, strings.Repeat("n", api.MaxName)), tok(api.TLit, 0, ""), tok(api.TLit, 0, "12"), tok(api.TLit, 0, "\x01\x07\xff"), tok(api.TNow, 0, ""), tok(api.TNow, 0, strings.Repeat("9", api.MaxName)),
		tok(api.TString, 0, ""), tok(api.TString, 0, "\x01\x02"), tok(api.TString, 0, packed(tok(api.TOpen, 0, ""))), tok(api.TString, 0, allBytes()), tok(api.TString, 0, strings.Repeat("\xfe", 127)), tok(api.TString, 0, strings.Repeat("\x80", 128)),
	}
	for _, kind := range everyKind[6:] {
		l = append(l, tok(kind, 0, ""))
	}
	return l
}

// P9.2: the limit of bytes, reached by each kind of token.
func TestPutOfLongSequences(t *testing.T) {
	for _, n := range []int{api.MaxText - 1, api.MaxText, api.MaxText + 1, api.MaxText + 2} {
		want, e := packed(filled(n)...), api.OK
		if len(want) != n {
			t.Fatalf("a sequence of %d bytes has %d", n, len(want))
		}
		if n > api.MaxText {
			want, e = "", api.ErrLimit
		}
		checkPut(t, filled(n), want, e)
		for _, one := range samples() {
			l := append(filled(n-len(packed(one))+len(four)), one)
			want := ""
			if n <= api.MaxText {
				want = packed(l...)
			}
			checkPut(t, l, want, e)
		}
	}
	long := tok(api.TString, 0, strings.Repeat("s", api.MaxString))
	checkPut(t, slices.Repeat([]api.Token{long}, 5), "", api.ErrLimit)
	checkPut(t, slices.Repeat([]api.Token{long}, api.MaxTokens), "", api.ErrLimit)
	checkPut(t, append(slices.Repeat([]api.Token{long}, api.MaxTokens), api.Token{}), "", api.ErrArg)
	checkPut(t, slices.Repeat([]api.Token{tok(api.TInt, 1<<20, "")}, api.MaxTokens), "", api.ErrLimit)
	checkPut(t, append(filled(api.MaxText+1), tok(api.TName, 0, "1")), "", api.ErrArg)
}

// P9.2: what Put returns is new memory.
func TestPutIsNewMemory(t *testing.T) {
	for _, l := range [][]api.Token{nil, {tok(api.TOpen, 0, "")}, samples()} {
		a, _ := Put(l)
		b, _ := Put(l)
		want := string(b)
		a = a[:cap(a)]
		for i := range a {
			a[i] = 0
		}
		if c, e := Put(l); string(b) != want || string(c) != want || e != api.OK {
			t.Errorf("Put returns memory that it has returned before")
		}
	}
}

// someToken is a valid token, of each kind about as often.
func someToken(random *rand.Rand) api.Token {
	bytes := func(most int) string {
		b := make([]byte, random.IntN(most+1))
		for i := range b {
			b[i] = byte(random.IntN(256))
		}
		return string(b)
	}
	for {
		one := api.Token{Kind: everyKind[random.IntN(len(everyKind))], At: random.IntN(100) - 50}
		switch one.Kind {
		case api.TInt:
			one.N = (random.IntN(2*api.MaxInt+1) - api.MaxInt) >> random.IntN(32)
		case api.TFix:
			one.N = (random.IntN(2*api.MaxFix+1) - api.MaxFix) >> random.IntN(31)
		case api.TString:
			one.S = bytes([]int{3, 12, 300}[random.IntN(3)])
		case api.TName, api.TLit, api.TNow:
			one.S = bytes(4)
		}
		if token.May(one) {
			return one
		}
	}
}

// someTokens are up to most valid tokens.
func someTokens(random *rand.Rand, most int) []api.Token {
	var l []api.Token
	for range random.IntN(most + 1) {
		l = append(l, someToken(random))
	}
	return l
}

// P9.2: many lists of tokens.
func TestPutOfSomeTokens(t *testing.T) {
	random := rand.New(rand.NewPCG(9, 2))
	for range 3000 {
		l := someTokens(random, 20)
		checkPut(t, l, packed(l...), api.OK)
	}
}
