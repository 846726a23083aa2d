package pack

import (
	"encoding/binary"
	"math/rand/v2"
	"regexp"
	"slices"
	"strings"
	"testing"

	"tympan/api"
	"tympan/token"
)

// checkTake checks what Take returns, that neither the bytes nor what lies behind them is changed, and that the tokens do not hang on them.
func checkTake(t *testing.T, s string, want []api.Token, at int, e api.Errno) {
	t.Helper()
	all := []byte(s + "\x07behind")
	got, gotAt, gotE := Take(all[:len(s)])
	if string(all) != s+"\x07behind" {
		t.Errorf("Take changed %.60q to %.60q", s, all)
	}
	for i := range all {
		all[i] = '?'
	}
	if !slices.Equal(got, want) || gotAt != at || gotE != e {
		t.Errorf("Take of %.60q of %d bytes = %d tokens %s, %d, %d, want %d tokens %s, %d, %d", s, len(s), len(got), brief(got), gotAt, gotE, len(want), brief(want), at, e)
	}
}

// checkFault checks bytes that are an error where a token should begin, also with tokens before them.
func checkFault(t *testing.T, s string, e api.Errno) {
	t.Helper()
	checkTake(t, four+s, nil, 4, e)
	checkTake(t, four+"\x07"+s, nil, 5, e)
	checkTake(t, four+"\x01\x80\x01\x06\x02\x01\x80\x04\x00"+s, nil, 13, e)
}

// checkForm checks bytes that are ErrForm, whatever follows them.
func checkForm(t *testing.T, s string) {
	t.Helper()
	for _, more := range []string{"", "\x00", "\x07", "\x7f", "\x80", "\xff\xff\xff\xff\xff\xff", "\x01", "\x06\x03a", strings.Repeat("a", 5000)} {
		checkFault(t, s+more, api.ErrForm)
	}
}

// placed are the tokens with the offsets that they have in their packed sequence.
func placed(l ...api.Token) []api.Token {
	l = slices.Clone(l)
	for i := range l {
		l[i].At = len(packed(l[:i]...))
	}
	return l
}

// P9.3: each token, and the offset of each.
func TestTakeRows(t *testing.T) {
	checkTake(t, four, nil, 0, api.OK)
	checkTake(t, four+"\x01\x01", []api.Token{{Kind: api.TInt, N: -1, At: 4}}, 0, api.OK)
	checkTake(t, four+"\x06\x01\x07\x02\x80\x01\x0c\x05\x00\x03\x02ab\x01\xfd\xff\xff\xff\x0f", []api.Token{
		{Kind: api.TString, S: "\x07", At: 4}, {Kind: api.TFix, N: 64, At: 7}, {Kind: api.TEnd, At: 10}, {Kind: api.TNow, At: 11}, {Kind: api.TName, S: "ab", At: 13}, {Kind: api.TInt, N: -api.MaxInt, At: 17},
	}, 0, api.OK)
	all := samples()
	checkTake(t, packed(all...), placed(all...), 0, api.OK)
	for _, a := range all {
		checkTake(t, packed(a), placed(a), 0, api.OK)
		for _, b := range all {
			checkTake(t, packed(a, b), placed(a, b), 0, api.OK)
			checkTake(t, packed(a, b, a), placed(a, b, a), 0, api.OK)
		}
	}
	for n := range edges() {
		one := tok(api.TInt, n, "")
		checkTake(t, packed(one, one), placed(one, one), 0, api.OK)
	}
}

// P9.3: bytes that do not begin with the four, too many of them too.
func TestTakeOtherBeginnings(t *testing.T) {
	for n := range len(four) {
		checkTake(t, four[:n], nil, 0, api.ErrForm)
		for c := range 256 {
			b := []byte(four + "\x07\x0d")
			b[n] = byte(c)
			if b[n] != four[n] {
				checkTake(t, string(b), nil, 0, api.ErrForm)
			}
		}
	}
	for _, s := range []string{"\x07", "\x00" + four, "{ } moveto", "\xf4TP\x02", "\xf4\xf4TP\x01", strings.Repeat("\x07", api.MaxText)} {
		checkTake(t, s, nil, 0, api.ErrForm)
	}
	if l, at, e := Take(nil); l != nil || at != 0 || e != api.ErrForm {
		t.Errorf("Take(nil) = %v, %d, %d", l, at, e)
	}
}

// P9.3: the limit of bytes.
func TestTakeOfLongSequences(t *testing.T) {
	for n := api.MaxText - 2; n <= api.MaxText; n++ {
		checkTake(t, packed(filled(n)...), placed(filled(n)...), 0, api.OK)
	}
	for n := api.MaxText + 1; n <= api.MaxText+3; n++ {
		checkTake(t, packed(filled(n)...), nil, 0, api.ErrLimit)
	}
	for _, more := range []string{"\x07", "\x0d", "\x00", "\x01\x80", "\xff", "\x06\xff\xff\xff\xff\xff"} {
		for n := api.MaxText - 1; n <= api.MaxText+1; n++ {
			body := more + strings.Repeat("\x00", n-len(more))
			checkTake(t, body, nil, 0, api.ErrForm)
			// The limit precedes all errors of the tokens, and follows that of the four bytes.
			if s := four + body[:n-len(four)]; n > api.MaxText {
				checkTake(t, s, nil, 0, api.ErrLimit)
			} else if more == "\x07" {
				checkTake(t, s, nil, 5, api.ErrForm)
			} else {
				checkTake(t, s, nil, 4, api.ErrForm)
			}
		}
	}
	checkTake(t, strings.Repeat("\xf4TP\x00", api.MaxText), nil, 0, api.ErrForm)
	checkTake(t, strings.Repeat(four, api.MaxText), nil, 0, api.ErrLimit)
}

// P9.3: the limit of tokens, which precedes all errors of the token that is one more.
func TestTakeOfManyTokens(t *testing.T) {
	for _, one := range []api.Token{tok(api.TOpen, 0, ""), tok(api.TLit, 0, ""), tok(api.TInt, -70, ""), tok(api.TString, 0, "ab")} {
		l := slices.Repeat([]api.Token{one}, api.MaxTokens)
		s := packed(l...)
		if len(s) > api.MaxText-20 {
			t.Fatalf("%d bytes leave no room for one more token", len(s))
		}
		checkTake(t, s, placed(l...), 0, api.OK)
		few := packed(l[1:]...)
		for _, more := range []string{"\x07", "\x01\x00", "\x0a\x0a\x0a", "\x00", "\x0d", "\xff", "\x01", "\x01\x80", "\x06\x02a", "\x01\x80\x00", "\x01\xff\xff\xff\xff\xff", "\x06\xff\x7f", "\x03\x00", "\x03\x011"} {
			checkTake(t, s+more, nil, len(s), api.ErrLimit)
		}
		// The last token that there may be is an error of its own.
		checkTake(t, few+"\x0d\x07", nil, len(few), api.ErrForm)
		checkTake(t, few+"\x01\x80", nil, len(few), api.ErrEnd)
		checkTake(t, few+"\x07\x07\x00", nil, len(few)+1, api.ErrLimit)
	}
}

// P9.3: kinds that are none.
func TestTakeKinds(t *testing.T) {
	for c := range 256 {
		kind := string([]byte{byte(c)})
		switch {
		case c == 0 || c > 12:
			checkForm(t, kind)
		case c > 6:
			checkTake(t, four+kind, []api.Token{{Kind: c, At: 4}}, 0, api.OK)
			checkTake(t, four+kind+kind, []api.Token{{Kind: c, At: 4}, {Kind: c, At: 5}}, 0, api.OK)
		default:
			checkFault(t, kind, api.ErrEnd)
		}
	}
}

// P9.3: a sequence that is cut at each offset ends too early, except between tokens.
func TestTakeOfCutSequences(t *testing.T) {
	random := rand.New(rand.NewPCG(9, 3))
	lists := [][]api.Token{samples(), {tok(api.TString, 0, strings.Repeat("s", api.MaxString))}}
	for range 30 {
		lists = append(lists, someTokens(random, 12))
	}
	for _, l := range lists {
		s, want := packed(l...), placed(l...)
		whole := 0 // tokens that end at n or before it
		for n := range len(s) {
			for whole < len(want) && len(packed(l[:whole+1]...)) <= n {
				whole++
			}
			switch {
			case n < len(four):
				checkTake(t, s[:n], nil, 0, api.ErrForm)
			case n == want[whole].At:
				checkTake(t, s[:n], want[:whole], 0, api.OK)
			default:
				checkTake(t, s[:n], nil, want[whole].At, api.ErrEnd)
			}
		}
	}
}

// P9.3: numbers, as the N of a token and as a length.
func TestTakeNumbers(t *testing.T) {
	for _, kind := range []string{"\x01", "\x02", "\x03", "\x04", "\x05", "\x06"} {
		for _, more := range []string{"\x80", "\xff", "\x81", "\xa5"} {
			for n := range 5 {
				checkFault(t, kind+strings.Repeat(more, n), api.ErrEnd)
				if n > 0 {
					checkForm(t, kind+strings.Repeat(more, n)+"\x00")
				}
			}
			checkForm(t, kind+strings.Repeat(more, 5))
			checkForm(t, kind+strings.Repeat(more, 5)+"\x00")
			checkForm(t, kind+strings.Repeat(more, 5)+"\x01")
			checkForm(t, kind+strings.Repeat(more, 6)+"\x01")
		}
	}
	// Seven bits that are all 0 are wrong in the last byte alone.
	checkTake(t, four+"\x01\x80\x01\x01\x80\x80\x80\x80\x01", []api.Token{{Kind: api.TInt, N: 64, At: 4}, {Kind: api.TInt, N: 1 << 27, At: 7}}, 0, api.OK)
	checkTake(t, four+"\x01\x00\x02\x00\x04\x00\x05\x00\x06\x00", []api.Token{{Kind: api.TInt, At: 4}, {Kind: api.TFix, At: 6}, {Kind: api.TLit, At: 8}, {Kind: api.TNow, At: 10}, {Kind: api.TString, At: 12}}, 0, api.OK)
}

// P9.3: numbers that are read, but are beyond the range of their kind.
func TestTakeNumbersOutOfRange(t *testing.T) {
	for kind, most := range map[byte]int{api.TInt: api.MaxInt, api.TFix: api.MaxFix} {
		for _, n := range []int{most - 1, most, -most + 1, -most} {
			one := tok(int(kind), n, "")
			checkTake(t, packed(one, one), placed(one, one), 0, api.OK)
		}
		for _, n := range []int{most + 1, -most - 1, most + 2, -most - 2, 2*most + 1, 1<<32 + 1, -1 << 32, 1<<34 - 1, -1 << 34} {
			s := string(binary.AppendVarint([]byte{kind}, int64(n)))
			if len(s) > 6 {
				t.Fatalf("%d has %d bytes", n, len(s))
			}
			checkForm(t, s)
		}
	}
}

// length is a length of n as a number.
func length(n int) string { return string(binary.AppendUvarint(nil, uint64(n))) }

// P9.3: lengths at their limit, with the bytes of S there and missing.
func TestTakeLengths(t *testing.T) {
	for _, n := range []int{api.MaxString + 1, api.MaxString + 2, 1 << 14, 20000, 1 << 31, 1 << 32, 1<<35 - 1} {
		for _, kind := range []string{"\x03", "\x04", "\x05", "\x06"} {
			checkForm(t, kind+length(n))
			checkFault(t, kind+length(n)+strings.Repeat("a", min(n, 10000)), api.ErrForm)
		}
	}
	for _, n := range []int{1, 2, 99, 100, 101, 127, 128, api.MaxString - 1, api.MaxString} {
		s := strings.Repeat("a", n)
		for _, kind := range named {
			start := string([]byte{byte(kind)}) + length(n)
			checkFault(t, start, api.ErrEnd)
			checkFault(t, start+s[1:], api.ErrEnd)
			checkFault(t, start+s[:n/2], api.ErrEnd)
			if kind == api.TString || n <= 100 {
				checkTake(t, four+start+s, []api.Token{{Kind: kind, S: s, At: 4}}, 0, api.OK)
				checkTake(t, four+start+s+"\x07", []api.Token{{Kind: kind, S: s, At: 4}, {Kind: api.TOpen, At: 4 + len(start) + n}}, 0, api.OK)
			} else {
				checkForm(t, start+s)
			}
		}
	}
}

// P9.3: names that are read, but are not valid; cut, they end too early.
func TestTakeInvalidNames(t *testing.T) {
	check := func(kind int, s string) {
		t.Helper()
		whole := string([]byte{byte(kind)}) + length(len(s)) + s
		checkForm(t, whole)
		for n := 1; n < len(whole); n++ {
			checkFault(t, whole[:n], api.ErrEnd)
		}
	}
	for _, s := range []string{"", "1", "-0", "1.5", ".5", "16#f", "99999999999", "16384.0"} {
		check(api.TName, s)
	}
	for _, kind := range named[:3] {
		for _, s := range []string{"/", " ", "a b", "a\x00", "(", "%a", "{", "<<", "\n", strings.Repeat("n", 101), strings.Repeat("1", 101), strings.Repeat(" ", 200)} {
			check(kind, s)
		}
	}
	for c := range 256 {
		s := string([]byte{byte(c)})
		regular := !strings.Contains("\x00\t\n\f\r ()<>[]{}/%", s)
		for _, kind := range named {
			if regular || kind == api.TString {
				checkTake(t, four+string([]byte{byte(kind), 2, 'x', byte(c)}), []api.Token{{Kind: kind, S: "x" + s, At: 4}}, 0, api.OK)
			} else {
				check(kind, "x"+s)
			}
		}
	}
}

// P9.3: of several errors, the one of the first token.
func TestTakeFirstError(t *testing.T) {
	for _, a := range []string{"\x00", "\x0d", "\x01\x80\x00", "\x03\x00", "\x04\x01/", "\x06\xa1\x1f"} {
		for b, e := range map[string]api.Errno{"\x01": api.ErrEnd, "\x06\x02a": api.ErrEnd, "\x01\x80\x80\x80\x80\x80": api.ErrForm} {
			checkTake(t, four+"\x07"+a+b, nil, 5, api.ErrForm)
			checkTake(t, four+"\x07\x08"+b, nil, 6, e)
		}
	}
}

// P9.3: no two lists share memory.
func TestTakeIsNewMemory(t *testing.T) {
	s := packed(samples()...)
	a, _, _ := Take([]byte(s))
	b, _, _ := Take([]byte(s))
	a = a[:cap(a)]
	for i := range a {
		a[i] = api.Token{}
	}
	if !slices.Equal(b, placed(samples()...)) {
		t.Errorf("Take returns memory that it has returned before")
	}
	checkTake(t, s, b, 0, api.OK)
}

// The forms of a number that b may begin with, each byte being a rune here; of any bytes, exactly one of them matches.
var (
	goodNumber  = regexp.MustCompile(`^([\x00-\x7f]|[\x80-\xff]{1,4}[\x01-\x7f])`)
	wrongNumber = regexp.MustCompile(`^([\x80-\xff]{5}|[\x80-\xff]{1,4}\x00)`)
)

// described is a second description of P9.3 for one token: its S or N and its number of bytes.
func described(s string) (one api.Token, size int, e api.Errno) {
	one.Kind = int(s[0])
	if !slices.Contains(everyKind, one.Kind) {
		return api.Token{}, 0, api.ErrForm
	}
	if one.Kind >= api.TOpen {
		return one, 1, api.OK
	}
	var runes []rune
	for _, c := range []byte(s[1:]) {
		runes = append(runes, rune(c))
	}
	if wrongNumber.MatchString(string(runes)) {
		return api.Token{}, 0, api.ErrForm
	}
	number := len([]rune(goodNumber.FindString(string(runes))))
	if number == 0 {
		return api.Token{}, 0, api.ErrEnd
	}
	if one.Kind <= api.TFix {
		v, _ := binary.Varint([]byte(s[1 : 1+number]))
		one.N, size = int(v), 1+number
	} else {
		v, _ := binary.Uvarint([]byte(s[1 : 1+number]))
		if v > 4000 {
			return api.Token{}, 0, api.ErrForm
		}
		size = 1 + number + int(v)
		if size > len(s) {
			return api.Token{}, 0, api.ErrEnd
		}
		one.S = s[1+number : size]
	}
	if !token.May(one) {
		return api.Token{}, 0, api.ErrForm
	}
	return one, size, api.OK
}

// describedAll is a second description of P9.3 for bytes that are not too many and begin with the four.
func describedAll(s string) (l []api.Token, at int, e api.Errno) {
	at = len(four)
	for at < len(s) {
		if len(l) == 4000 {
			return nil, at, api.ErrLimit
		}
		one, size, e := described(s[at:])
		if e != api.OK {
			return nil, at, e
		}
		one.At = at
		l = append(l, one)
		at += size
	}
	return l, 0, api.OK
}

// checkDescribed holds Take against the second description, and P9.4: what Take accepts is what Put returns for its tokens.
func checkDescribed(t *testing.T, s string) {
	t.Helper()
	l, at, e := describedAll(s)
	checkTake(t, s, l, at, e)
	if got, _, e := Take([]byte(s)); e == api.OK {
		checkPut(t, got, s, api.OK)
	}
}

// eachString calls f with all strings of up to most of the bytes.
func eachString(bytes string, most int, f func(s string)) {
	f("")
	if most == 0 {
		return
	}
	eachString(bytes, most-1, func(s string) {
		if len(s) == most-1 {
			for i := range len(bytes) {
				f(s + bytes[i:i+1])
			}
		} else {
			f(s)
		}
	})
}

// P9.3 and P9.4: all short sequences of the bytes that matter.
func TestTakeOfShortSequences(t *testing.T) {
	eachString("\x00\x01\x02\x03\x04\x05\x06\x07\x0c\x0da/ \x7f\x80\xff", 3, func(s string) { checkDescribed(t, four+s) })
	eachString("\x00\x01\x02\x03\x06\x07a\x80", 5, func(s string) { checkDescribed(t, four+s) })
	for _, kind := range []string{"\x01", "\x02", "\x05", "\x06"} {
		eachString("\x00\x01\x0f\x10\x80\xff", 5, func(s string) { checkDescribed(t, four+kind+s) })
		eachString("\x00\x07\x08\x80\xff", 6, func(s string) { checkDescribed(t, four+"\x08"+kind+s) })
	}
}

// P9.3 and P9.4: sequences of which some bytes are changed, removed or added.
func TestTakeOfChangedSequences(t *testing.T) {
	random := rand.New(rand.NewPCG(9, 4))
	for range 20000 {
		b := []byte(packed(someTokens(random, 8)...))
		for range 1 + random.IntN(3) {
			i := len(four) + random.IntN(len(b)-len(four)+1)
			c := []byte{byte(random.IntN(256)), byte(random.IntN(14)), 0, 128}[random.IntN(4)]
			switch random.IntN(3) {
			case 0:
				b = slices.Insert(b, i, c)
			case 1:
				if i < len(b) {
					b[i] = c
				}
			case 2:
				if i < len(b) {
					b = slices.Delete(b, i, i+1)
				}
			}
		}
		checkDescribed(t, string(b))
	}
}

// P9.4: Take returns what Put packed, except for At, and Put packs it again as the same bytes.
func TestTakeOfPut(t *testing.T) {
	check := func(l []api.Token) {
		t.Helper()
		b, e := Put(l)
		back, at, backE := Take(b)
		if e != api.OK || backE != api.OK || at != 0 || !slices.Equal(bare(back), bare(l)) || !Is(b) {
			t.Errorf("tokens %s, packed as %.100q, %d, are read as %s, %d, %d", brief(l), b, e, brief(back), at, backE)
		}
		if again, e := Put(back); string(again) != string(b) || e != api.OK {
			t.Errorf("the bytes %.100q are packed again as %.100q, %d", b, again, e)
		}
	}
	random := rand.New(rand.NewPCG(9, 5))
	for range 6000 {
		check(someTokens(random, 20))
	}
	check(nil)
	check(samples())
	for n := api.MaxText - 3; n <= api.MaxText; n++ {
		check(filled(n))
	}
	for _, one := range samples() {
		check([]api.Token{one})
		check(slices.Repeat([]api.Token{one}, min(api.MaxTokens, (api.MaxText-len(four))/(6+len(one.S)))))
	}
	for n := -api.MaxFix; n <= api.MaxFix; n += 100003 {
		check([]api.Token{tok(api.TFix, n, ""), tok(api.TInt, n, ""), tok(api.TInt, 2*n, "")})
	}
}

// P9.4: the tokens of a text are packed, and are the tokens of that text again.
func TestTakeOfTexts(t *testing.T) {
	for _, s := range []string{"", "1 (a)}", "/box { 0 0 moveto -1.5 10 lineto } def %end\n<< /a [ //b <41 42> ] >>", strings.Repeat("/ ", api.MaxTokens)} {
		l, _, e := token.All(s)
		if e != api.OK {
			t.Fatalf("All(%.60q) = %d", s, e)
		}
		b, e := Put(l)
		back, _, backE := Take(b)
		if e != api.OK || backE != api.OK || !slices.Equal(bare(back), bare(l)) {
			t.Errorf("the text %.60q is packed as %.60q, %d and read as %s, %d", s, b, e, brief(back), backE)
		}
		if text, e := token.Print(back); e != api.OK {
			t.Errorf("Print of %s = %q, %d", brief(back), text, e)
		}
	}
}
