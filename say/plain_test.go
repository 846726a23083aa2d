package say

import (
	"math"
	"slices"
	"strings"
	"testing"

	"tympan/api"
	"tympan/heap"
	"tympan/op"
)

// everyByte returns the 256 bytes in order.
func everyByte() string {
	b := make([]byte, 256)
	for i := range b {
		b[i] = byte(i)
	}
	return string(b)
}

// filled returns a world with strings, arrays and dictionaries of several kinds.
func filled(t *testing.T) *world {
	t.Helper()
	w := newWorld(heap.New())
	s := w.text("a(b)\\\n")
	w.text("")
	d, _ := w.h.Dict(2)
	inner := w.list(num(1), run(name("x")))
	w.list()
	w.list(
		nothing(), truthOf(1), truthOf(0), num(-3), fixed(-98304), name("n"), run(name("n")),
		api.Object{Kind: api.Mark}, operator(11), s, d, inner, run(inner), api.Object{Kind: api.Save, N: 3},
	)
	itself := w.empty(2)
	w.put(itself, 0, itself)
	w.put(itself, 1, num(5))
	one := w.empty(1)
	w.put(one, 0, run(w.list(one)))
	return w
}

// heaps returns worlds of heaps of several kinds: none, the zero heap, an empty one, and two that have cells.
func heaps(t *testing.T) []*world {
	t.Helper()
	other := newWorld(heap.New())
	other.list(name("other"))
	other.text("other")
	return []*world{newWorld(nil), newWorld(new(heap.Heap)), newWorld(heap.New()), other, filled(t)}
}

// extremes are numbers next to the bounds of fields.
func extremes() []int {
	l := []int{
		math.MinInt, math.MinInt + 1, math.MinInt32 - 1, math.MinInt32, -1 << 30, -163,
		162, 163, 199, 200, 201, 256, 1<<32 + 1, 1<<32 + 9, 1 << 30, 1<<31 - 1, 1 << 31, 1999, 2000, 39999, 40000, 40001,
		math.MaxInt - 1, math.MaxInt,
	}
	for n := -5; n <= 16; n++ {
		l = append(l, n)
	}
	return l
}

func TestEveryKind(t *testing.T) {
	for _, w := range heaps(t) {
		done := func() {}
		if w.h != nil {
			done = w.watch(t)
		}
		for _, kind := range extremes() {
			for _, n := range extremes() {
				w.check(t, api.Object{Kind: kind, N: n})
				w.check(t, api.Object{Kind: kind, N: n, Exec: true})
			}
		}
		done()
	}
}

func TestEveryField(t *testing.T) {
	for _, w := range heaps(t) {
		for kind := -1; kind <= 13; kind++ {
			for _, n := range []int{-1, 0, 1, 2, 11, math.MinInt, math.MaxInt} {
				for _, at := range []int{0, -1, 1, math.MinInt, math.MaxInt} {
					w.check(t, api.Object{Kind: kind, N: n, At: at})
					w.check(t, api.Object{Kind: kind, N: n, Len: at, Exec: true})
					w.check(t, api.Object{Kind: kind, N: n, At: at, Len: at})
				}
				if kind != api.String && kind != api.Array {
					w.check(t, api.Object{Kind: kind, N: n, S: "x"})
					w.check(t, api.Object{Kind: kind, N: n, S: "x", Exec: true})
				}
			}
		}
	}
}

func TestNoKind(t *testing.T) {
	w := filled(t)
	for _, kind := range []int{math.MinInt, -5, -1, 0, 12, 13, 1<<32 + 3, math.MaxInt} {
		for _, o := range []api.Object{{}, {N: 1}, {N: 1, S: "x", Exec: true}, {N: 3, Len: 2}} {
			o.Kind = kind
			w.want(t, o, "", "")
		}
	}
}

func TestSingleTexts(t *testing.T) {
	w := filled(t)
	for _, c := range []struct {
		kind int
		text string
	}{{api.Null, "null"}, {api.Mark, "-mark-"}, {api.Dict, "-dict-"}, {api.Save, "-save-"}} {
		for _, o := range []api.Object{
			{}, {Exec: true}, {N: 1}, {N: 2}, {N: -1}, {N: math.MaxInt}, {N: math.MinInt}, {N: 2, At: 1}, {N: 2, Len: 1}, {S: "x"}, {N: 2, S: "x", Exec: true},
		} {
			o.Kind = c.kind
			w.want(t, o, c.text, c.text)
		}
	}
}

func TestNumbers(t *testing.T) {
	w := newWorld(heap.New())
	for _, c := range []struct {
		o    api.Object
		text string
	}{
		{num(0), "0"}, {num(7), "7"}, {num(-7), "-7"}, {num(10), "10"}, {num(65536), "65536"}, {run(num(12)), "12"},
		{num(2147483647), "2147483647"}, {num(-2147483647), "-2147483647"},
		{num(2147483648), ""}, {num(-2147483648), ""}, {num(math.MaxInt), ""}, {num(math.MinInt), ""},
		{fixed(0), "0.0"}, {fixed(65536), "1.0"}, {fixed(-65536), "-1.0"}, {fixed(1), "0.00002"}, {fixed(-1), "-0.00002"},
		{fixed(98304), "1.5"}, {run(fixed(-32768)), "-0.5"}, {fixed(7), "0.0001"},
		{fixed(1073741823), "16383.99998"}, {fixed(-1073741823), "-16383.99998"},
		{fixed(1073741824), ""}, {fixed(-1073741824), ""}, {fixed(math.MaxInt), ""}, {fixed(math.MinInt), ""},
	} {
		w.want(t, c.o, c.text, c.text)
		for _, bad := range []api.Object{{At: 1}, {Len: 1}, {At: -1}, {S: "x"}, {S: "\x00"}} {
			bad.Kind, bad.N, bad.Exec = c.o.Kind, c.o.N, c.o.Exec
			w.want(t, bad, "", "")
		}
	}
}

func TestTruth(t *testing.T) {
	w := newWorld(heap.New())
	for _, n := range []int{0, 1, 2, -1, 3, 257, 1<<32 + 1, math.MinInt, math.MinInt + 1, math.MaxInt} {
		text := "false"
		if n == 1 {
			text = "true"
		}
		for _, o := range []api.Object{{}, {Exec: true}, {At: 1}, {Len: 1}, {S: "x"}} {
			o.Kind, o.N = api.Bool, n
			w.want(t, o, text, text)
		}
	}
}

func TestNames(t *testing.T) {
	w := newWorld(heap.New())
	for _, s := range []string{
		"", "a", "add", "12", "-1.5", "16#FF", "/", "/a", "//a", "a b", "(", ")", "[", "true", "-mark-", everyByte(),
		strings.Repeat("n", 100), strings.Repeat("n", 101), strings.Repeat("n", 998),
	} {
		w.want(t, name(s), s, "/"+s)
		w.want(t, run(name(s)), s, s)
		w.want(t, api.Object{Kind: api.Name, S: s, N: 1, At: -1, Len: 7}, s, "/"+s)
	}
}

func TestStrings(t *testing.T) {
	w := newWorld(heap.New())
	for _, c := range []struct{ s, full string }{
		{"", "()"}, {"a", "(a)"}, {"a b", "(a b)"}, {"(", `(\()`}, {")", `(\))`}, {"()", `(\(\))`}, {")(", `(\)\()`},
		{"((a)b)", `(\(\(a\)b\))`}, {`\`, `(\\)`}, {`\\n`, `(\\\\n)`}, {"\b\t\n\f\r", `(\b\t\n\f\r)`},
		{"\x00\x01\x07\x0b\x0e\x1f", `(\000\001\007\013\016\037)`}, {"\x20\x7e\x7f\x80\xff", `( ~\177\200\377)`}, {"{}[]<>/%", "({}[]<>/%)"},
	} {
		o := w.text(c.s)
		w.want(t, o, c.s, c.full)
		w.want(t, run(o), c.s, c.full)
	}
	all := w.text(everyByte())
	w.want(t, all, everyByte(), paren(everyByte()))
	for at := range 256 {
		w.want(t, part(all, at, 1), everyByte()[at:at+1], paren(everyByte()[at:at+1]))
		w.want(t, part(all, at, 0), "", "()")
		w.want(t, run(part(all, at, 256-at)), everyByte()[at:], paren(everyByte()[at:]))
		w.want(t, part(all, 0, at), everyByte()[:at], paren(everyByte()[:at]))
		w.want(t, part(part(all, at, 256-at), (256-at)/2, 1), everyByte()[(at+256)/2:(at+256)/2+1], paren(everyByte()[(at+256)/2:(at+256)/2+1]))
	}
}

func TestForeignStrings(t *testing.T) {
	w := newWorld(heap.New())
	l := w.list(num(40), num(41))
	s := w.text("abc")
	for _, o := range []api.Object{
		{N: l.N, Len: 2}, {N: l.N}, {N: 2, Len: 0}, {N: -1}, {N: math.MinInt}, {N: math.MaxInt}, {N: s.N + 1<<32, Len: 3},
		{N: s.N, Len: 4}, {N: s.N, At: 1, Len: 3}, {N: s.N, At: 4}, {N: s.N, At: -1, Len: 2}, {N: s.N, At: 1, Len: -1}, {N: s.N, Len: -1},
		{N: s.N, At: math.MaxInt, Len: math.MaxInt}, {N: s.N, At: 1, Len: math.MaxInt}, {N: s.N, At: math.MaxInt, Len: 1}, {N: s.N, At: math.MinInt, Len: math.MinInt},
	} {
		o.Kind = api.String
		w.want(t, o, "", "()")
		w.want(t, run(o), "", "()")
	}
	for _, h := range []*heap.Heap{nil, new(heap.Heap), heap.New()} {
		newWorld(h).want(t, s, "", "()")
	}
	other := newWorld(heap.New())
	other.text("xy")
	other.text("xyz")
	other.want(t, s, "xyz", "(xyz)")
}

func TestOperators(t *testing.T) {
	w := newWorld(heap.New())
	for n, s := range map[int]string{
		1: "pop", 2: "exch", 11: "add", 37: "[", 38: "<<", 57: "]", 71: ">>", 94: "=", 95: "==", 101: "vmstatus", 162: "setscreen",
		-1: "", 0: "", 163: "", 199: "", 200: "", 201: "", 267: "", 1<<32 + 1: "", math.MinInt: "", math.MaxInt: "",
	} {
		for _, o := range []api.Object{{}, {Exec: true}, {At: 1}, {Len: -1}, {S: "x"}} {
			o.Kind, o.N = api.Op, n
			w.want(t, o, s, "--"+s+"--")
		}
	}
	for n := -300; n <= 300; n++ {
		w.want(t, operator(n), op.Name(n), "--"+op.Name(n)+"--")
	}
}

// TestPlainArrays: the plain text of an array does not hang on its items, nor on the heap.
func TestPlainArrays(t *testing.T) {
	for _, w := range heaps(t) {
		for n := -1; n < 12; n++ {
			for size := range 4 {
				for _, o := range []api.Object{{}, {Exec: true}, {At: 1}, {At: -1}} {
					o.Kind, o.N, o.Len = api.Array, n, size
					if got := Plain(w.h, o); got != "-array-" {
						t.Errorf("P17.1: Plain of %v: %q, want -array-", o, got)
					}
				}
			}
		}
	}
}

// TestPlainWhole: only Full is cut.
func TestPlainWhole(t *testing.T) {
	for _, n := range []int{998, 999, 1000, 1001, 1002, 2000, 4000, 4001, 40000} {
		for _, c := range []string{"s", "(", "\x00", "\n"} {
			w := newWorld(heap.New())
			s := strings.Repeat(c, n)
			full := paren(s)
			w.want(t, w.text(s), s, full[:min(1000, len(full))])
			w.want(t, name(s), s, "/"+s[:min(n, 999)])
			w.want(t, run(name(s)), s, s[:min(n, 1000)])
		}
	}
}

// TestAnew: what was written follows what the string and the array are at the time of the call.
func TestAnew(t *testing.T) {
	w := newWorld(heap.New())
	s := w.text("abc")
	l := w.list(s, num(1))
	before := []string{Plain(w.h, s), Full(w.h, s), Full(w.h, l)}
	w.want(t, l, "-array-", "[(abc) 1]")
	w.h.Set(s, 1, num('('))
	w.texts[s.N] = "a(c"
	w.put(l, 1, run(name("x")))
	w.want(t, s, "a(c", `(a\(c)`)
	w.want(t, l, "-array-", `[(a\(c) x]`)
	if !slices.Equal(before, []string{"abc", "(abc)", "[(abc) 1]"}) {
		t.Errorf("P17.1: the texts of before became %q", before)
	}
}
