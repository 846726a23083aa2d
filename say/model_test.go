package say

import (
	"fmt"
	"math"
	"slices"
	"strconv"
	"testing"

	"tympan/api"
	"tympan/heap"
	"tympan/op"
)

// world is a heap, and what its strings and its arrays consist of, by the numbers of their cells.
type world struct {
	h     *heap.Heap
	texts map[int]string
	lists map[int][]api.Object
}

func num(n int) api.Object { return api.Object{Kind: api.Int, N: n} }

func fixed(n int) api.Object { return api.Object{Kind: api.Fix, N: n} }

func truthOf(n int) api.Object { return api.Object{Kind: api.Bool, N: n} }

func name(s string) api.Object { return api.Object{Kind: api.Name, S: s} }

func nothing() api.Object { return api.Object{Kind: api.Null} }

func operator(n int) api.Object { return api.Object{Kind: api.Op, Exec: true, N: n} }

func run(o api.Object) api.Object {
	o.Exec = true
	return o
}

func newWorld(h *heap.Heap) *world {
	return &world{h, map[int]string{}, map[int][]api.Object{}}
}

// text makes a string.
func (w *world) text(s string) api.Object {
	o, e := w.h.String(s)
	if e != api.OK {
		panic("no room for a string of the test")
	}
	w.texts[o.N] = s
	return o
}

// list makes an array.
func (w *world) list(items ...api.Object) api.Object {
	o, e := w.h.Array(len(items))
	if e != api.OK {
		panic("no room for an array of the test")
	}
	w.lists[o.N] = make([]api.Object, len(items))
	for i, x := range items {
		w.put(o, i, x)
	}
	return o
}

// empty makes an array of n items that are all to be put.
func (w *world) empty(n int) api.Object {
	return w.list(slices.Repeat([]api.Object{nothing()}, n)...)
}

func (w *world) put(o api.Object, i int, x api.Object) {
	w.h.Set(o, i, x)
	w.lists[o.N][o.At+i] = x
}

func part(o api.Object, at, n int) api.Object {
	o.At, o.Len = o.At+at, n
	return o
}

// within returns the n items or bytes from at on, if there are that many of them.
func within[T any](all []T, at, n int) (l []T, ok bool) {
	if at < 0 || n < 0 || at > len(all) || n > len(all)-at {
		return nil, false
	}
	return all[at : at+n], true
}

// bytes returns the bytes to which a String refers, if it belongs to the heap.
func (w *world) bytes(o api.Object) (s string, ok bool) {
	all, is := w.texts[o.N]
	b, ok := within([]byte(all), o.At, o.Len)
	return string(b), ok && is
}

// items returns the items to which an Array refers, if it belongs to the heap.
func (w *world) items(o api.Object) (l []api.Object, ok bool) {
	all, is := w.lists[o.N]
	l, ok = within(all, o.At, o.Len)
	return l, ok && is
}

// decimal is what numtext's Fix returns of a valid fix.
func decimal(v int) string {
	for places := 1; ; places++ {
		s := strconv.FormatFloat(float64(v)/65536, 'f', places, 64)
		x, _ := strconv.ParseFloat(s, 64)
		if int(math.RoundToEven(x*65536)) == v {
			return s
		}
	}
}

// plain is what Plain returns.
func (w *world) plain(o api.Object) string {
	valid := o.At == 0 && o.Len == 0 && o.S == ""
	switch o.Kind {
	case 2:
		return strconv.FormatBool(o.N == 1)
	case 3:
		if valid && o.N >= -2147483647 && o.N <= 2147483647 {
			return strconv.Itoa(o.N)
		}
	case 4:
		if valid && o.N >= -1073741823 && o.N <= 1073741823 {
			return decimal(o.N)
		}
	case 5:
		return o.S
	case 7:
		return op.Name(o.N)
	case 8:
		if b, ok := w.bytes(o); ok {
			return b
		}
	case 1, 6, 9, 10, 11:
		return map[int]string{1: "null", 6: "-mark-", 9: "-array-", 10: "-dict-", 11: "-save-"}[o.Kind]
	}
	return ""
}

// paren is what quote's Paren returns.
func paren(s string) string {
	out := []byte("(")
	for _, c := range []byte(s) {
		switch {
		case c == '(' || c == ')' || c == '\\':
			out = append(out, '\\', c)
		case c == '\b':
			out = append(out, `\b`...)
		case c == '\t':
			out = append(out, `\t`...)
		case c == '\n':
			out = append(out, `\n`...)
		case c == '\f':
			out = append(out, `\f`...)
		case c == '\r':
			out = append(out, `\r`...)
		case c < 32 || c > 126:
			out = fmt.Appendf(out, `\%03o`, c)
		default:
			out = append(out, c)
		}
	}
	return string(out) + ")"
}

// piece is a part of a text: text itself, or an object that is contained in deep arrays.
type piece struct {
	text string
	o    api.Object
	deep int
}

// flat returns the text of a piece whose object's items are not written.
func (w *world) flat(p piece) string {
	switch {
	case p.o.Kind == api.Name && !p.o.Exec:
		return "/" + p.o.S
	case p.o.Kind == api.String:
		return paren(w.plain(p.o))
	case p.o.Kind == api.Op:
		return "--" + w.plain(p.o) + "--"
	}
	return p.text + w.plain(p.o)
}

// full is what Full returns: pieces are replaced by their parts, the first ones first, until there are 1000 bytes.
func (w *world) full(o api.Object) string {
	text := ""
	todo := []piece{{o: o}}
	for len(todo) > 0 && len(text) < 1000 {
		p := todo[len(todo)-1]
		todo = todo[:len(todo)-1]
		items, ok := w.items(p.o)
		if p.o.Kind != api.Array || !ok || p.deep >= 20 {
			text += w.flat(p)
			continue
		}
		left, right := "[", "]"
		if p.o.Exec {
			left, right = "{", "}"
		}
		text += left
		todo = append(todo, piece{text: right})
		for i, x := range slices.Backward(items) {
			todo = append(todo, piece{o: x, deep: p.deep + 1})
			if i > 0 {
				todo = append(todo, piece{text: " "})
			}
		}
	}
	return text[:min(1000, len(text))]
}

// short returns a text with what is in the middle of a long one left out, for messages.
func short(s string) string {
	if len(s) < 160 {
		return strconv.Quote(s)
	}
	return fmt.Sprintf("%q..%q (%d bytes)", s[:60], s[len(s)-60:], len(s))
}

// hold holds the results of both calls of an object against those that are wanted.
func (w *world) hold(t *testing.T, o api.Object, plain, full string) {
	t.Helper()
	if got := Plain(w.h, o); got != plain {
		t.Errorf("P17.1: Plain of %s: %s, want %s", short(fmt.Sprint(o)), short(got), short(plain))
	}
	if got := Full(w.h, o); got != full {
		t.Errorf("P17.2: Full of %s: %s, want %s", short(fmt.Sprint(o)), short(got), short(full))
	}
}

// check holds both calls of an object against the model.
func (w *world) check(t *testing.T, o api.Object) {
	t.Helper()
	w.hold(t, o, w.plain(o), w.full(o))
}

// want holds both calls of an object against texts that a test has written out, and the model against these too.
func (w *world) want(t *testing.T, o api.Object, plain, full string) {
	t.Helper()
	w.hold(t, o, plain, full)
	if p, f := w.plain(o), w.full(o); p != plain || f != full {
		t.Errorf("the model of %s: %s and %s, want %s and %s", short(fmt.Sprint(o)), short(p), short(f), short(plain), short(full))
	}
}

// watch returns a function that holds the heap against what it is now.
func (w *world) watch(t *testing.T) func() {
	t.Helper()
	cells, used := w.h.Cells(), w.h.Used()
	return func() {
		t.Helper()
		if c, u := w.h.Cells(), w.h.Used(); c != cells || u != used {
			t.Errorf("P17.2: afterwards the heap has %d cells with %d items and bytes, want %d and %d", c, u, cells, used)
		}
		for n, s := range w.texts {
			if b, e := w.h.Bytes(api.Object{Kind: api.String, N: n, Len: len(s)}); b != s || e != api.OK {
				t.Errorf("P17.2: afterwards cell %d of the heap is %s, %d, want %s", n, short(b), e, short(s))
			}
		}
		for n, l := range w.lists {
			if got, e := w.h.Items(api.Object{Kind: api.Array, N: n, Len: len(l)}); !slices.Equal(got, l) || e != api.OK {
				t.Errorf("P17.2: afterwards cell %d of the heap is %s, %d, want %s", n, short(fmt.Sprint(got)), e, short(fmt.Sprint(l)))
			}
		}
	}
}
