package say

import (
	"math"
	"math/rand/v2"
	"slices"
	"strings"
	"testing"

	"tympan/api"
	"tympan/heap"
	"tympan/token"
)

// nested returns n arrays in one another, of which the odd ones are run if mixed.
func (w *world) nested(n int, mixed bool) api.Object {
	o := w.list()
	for i := 1; i < n; i++ {
		o.Exec = mixed && i%2 == 1
		o = w.list(o)
	}
	return o
}

func TestArrays(t *testing.T) {
	w := filled(t)
	one := w.list(num(1))
	d, _ := w.h.Dict(0)
	rows := []struct {
		o    api.Object
		full string
	}{
		{w.list(), "[]"}, {one, "[1]"}, {w.list(one), "[[1]]"}, {w.list(run(one)), "[{1}]"}, {w.list(one, one), "[[1] [1]]"}, {w.list(one, run(one), one), "[[1] {1} [1]]"},
		{w.list(num(1), w.text("a"), name("b"), run(w.list(run(name("c"))))), "[1 (a) /b {c}]"},
		{w.list(w.list(), run(w.list())), "[[] {}]"},
		{w.list(nothing(), truthOf(0), truthOf(1), num(-2), fixed(-65536)), "[null false true -2 -1.0]"},
		{w.list(api.Object{Kind: api.Mark}, operator(1), operator(200), d, api.Object{Kind: api.Save, N: 4}), "[-mark- --pop-- ---- -dict- -save-]"},
		{w.list(name("")), "[/]"}, {w.list(run(name(""))), "[]"}, {w.list(run(name("")), run(name(""))), "[ ]"},
		{w.list(name(""), run(name("")), name("")), "[/  /]"}, {w.list(run(name("")), num(1)), "[ 1]"}, {w.list(num(1), run(name(""))), "[1 ]"},
		{w.list(w.text(""), run(w.text("x y"))), "[() (x y)]"},
	}
	defer w.watch(t)()
	for _, c := range rows {
		w.want(t, c.o, "-array-", c.full)
		w.want(t, run(c.o), "-array-", "{"+c.full[1:len(c.full)-1]+"}")
	}
}

func TestParts(t *testing.T) {
	w := newWorld(heap.New())
	s := w.text("abcdef")
	l := w.list(num(0), num(1), num(2), part(s, 2, 3), part(s, 6, 0))
	for _, c := range []struct {
		at, n int
		full  string
	}{
		{0, 5, "[0 1 2 (cde) ()]"}, {0, 0, "[]"}, {5, 0, "[]"}, {1, 2, "[1 2]"}, {4, 1, "[()]"}, {2, 2, "[2 (cde)]"},
	} {
		w.want(t, part(l, c.at, c.n), "-array-", c.full)
		w.want(t, part(part(l, c.at, 5-c.at), 0, c.n), "-array-", c.full)
		w.want(t, w.list(part(l, c.at, c.n), num(9)), "-array-", "["+c.full+" 9]")
	}
}

// TestForeignArrays: an array that does not belong to the heap has no items, whatever is run.
func TestForeignArrays(t *testing.T) {
	w := newWorld(heap.New())
	s := w.text("abc")
	l := w.list(num(1), num(2), num(3))
	d, _ := w.h.Dict(1)
	for _, o := range []api.Object{
		{N: s.N, Len: 3}, {N: s.N}, {N: d.N}, {N: d.N, Len: 3}, {N: 3}, {N: -1}, {N: math.MinInt}, {N: math.MaxInt}, {N: l.N + 1<<32},
		{N: l.N, Len: 4}, {N: l.N, At: 1, Len: 3}, {N: l.N, At: 4}, {N: l.N, At: -1, Len: 2}, {N: l.N, At: 1, Len: -1}, {N: l.N, Len: -1},
		{N: l.N, At: math.MaxInt, Len: math.MaxInt}, {N: l.N, At: 1, Len: math.MaxInt}, {N: l.N, At: math.MaxInt, Len: 1}, {N: l.N, At: math.MinInt, Len: math.MinInt},
	} {
		o.Kind = api.Array
		w.want(t, o, "-array-", "-array-")
		w.want(t, run(o), "-array-", "-array-")
	}
	for _, h := range []*heap.Heap{nil, new(heap.Heap), heap.New()} {
		newWorld(h).want(t, l, "-array-", "-array-")
		newWorld(h).want(t, run(part(l, 0, 0)), "-array-", "-array-")
	}
	other := newWorld(heap.New())
	other.text("")
	other.list(name("other"), name("items"), num(0))
	other.want(t, l, "-array-", "[/other /items 0]")
}

func TestNesting(t *testing.T) {
	w := newWorld(heap.New())
	for n := 1; n <= 19; n++ {
		w.want(t, w.nested(n, false), "-array-", strings.Repeat("[", n)+strings.Repeat("]", n))
	}
	left, right := strings.Repeat("[", 20), strings.Repeat("]", 20)
	w.want(t, w.nested(20, false), "-array-", left+right)
	w.want(t, w.nested(21, false), "-array-", left+"-array-"+right)
	w.want(t, w.nested(22, false), "-array-", left+"-array-"+right)
	w.want(t, w.nested(60, false), "-array-", left+"-array-"+right)
	mixed := "[" + strings.Repeat("{[", 9) + "{"
	w.want(t, w.nested(20, true), "-array-", mixed+"}"+strings.Repeat("]}", 9)+"]")
	w.want(t, run(w.nested(21, true)), "-array-", "{"+strings.Repeat("[{", 9)+"[-array-]"+strings.Repeat("}]", 9)+"}")
	// An array beside a deep one is contained in as few as before.
	deep := w.nested(21, false)
	twice := w.list(num(1), deep, w.list(num(2)), deep)
	inner := strings.Repeat("[", 19) + "-array-" + strings.Repeat("]", 19)
	w.want(t, twice, "-array-", "[1 "+inner+" [2] "+inner+"]")
	// Not the number of arrays counts.
	many := w.list(slices.Repeat([]api.Object{w.list()}, 100)...)
	w.want(t, many, "-array-", "["+strings.Repeat("[] ", 99)+"[]]")
	late := w.list(append(slices.Repeat([]api.Object{num(1)}, 99), w.nested(19, false), w.nested(20, false))...)
	nineteen := strings.Repeat("[", 19) + strings.Repeat("]", 19)
	w.want(t, late, "-array-", "["+strings.Repeat("1 ", 99)+nineteen+" "+inner+"]")
}

// TestDeepest: in the innermost arrays that are written, all that is not an array is written as elsewhere.
func TestDeepest(t *testing.T) {
	w := newWorld(heap.New())
	o := w.list(num(1), w.text("("), run(w.list()), name("n"), run(name("n")), operator(1), w.list(num(1)), truthOf(1))
	for range 19 {
		o = w.list(o)
	}
	w.want(t, o, "-array-", strings.Repeat("[", 20)+`1 (\() -array- /n n --pop-- -array- true`+strings.Repeat("]", 20))
	o = w.list(run(o))
	w.want(t, o, "-array-", strings.Repeat("[", 1)+"{"+strings.Repeat("[", 18)+"-array-"+strings.Repeat("]", 18)+"}]")
}

func TestCircles(t *testing.T) {
	w := newWorld(heap.New())
	itself := w.empty(1)
	w.put(itself, 0, run(itself))
	w.want(t, itself, "-array-", "["+strings.Repeat("{", 19)+"-array-"+strings.Repeat("}", 19)+"]")
	a, b := w.empty(2), w.empty(2)
	w.put(a, 0, num(1))
	w.put(a, 1, run(b))
	w.put(b, 0, a)
	w.put(b, 1, num(2))
	w.want(t, a, "-array-", strings.Repeat("[1 {", 10)+"-array-"+strings.Repeat(" 2}]", 10))
	w.want(t, b, "-array-", strings.Repeat("[[1 ", 1)+strings.Repeat("{[1 ", 9)+"-array-"+strings.Repeat("] 2}", 9)+"] 2]")
	own := w.empty(3)
	w.put(own, 0, num(0))
	w.put(own, 1, part(own, 0, 2))
	w.put(own, 2, num(3))
	w.want(t, own, "-array-", strings.Repeat("[0 ", 20)+"-array-"+strings.Repeat("]", 19)+" 3]")
}

// TestFar: arrays whose whole text is far longer than MaxSay are written no further than that.
func TestFar(t *testing.T) {
	w := newWorld(heap.New())
	for n := 2; n <= 12; n++ {
		itself := w.empty(n)
		for i := range n {
			w.put(itself, i, itself)
		}
		w.check(t, itself)
		w.check(t, run(itself))
		if got := Full(w.h, itself); len(got) != 1000 {
			t.Errorf("P17.2: Full of an array of %d of itself has %d bytes", n, len(got))
		}
	}
	a, b := w.empty(20), w.empty(20)
	for i := range 20 {
		w.put(a, i, run(b))
		w.put(b, i, a)
	}
	w.check(t, a)
	w.check(t, b)
	last := w.empty(30000)
	for i := range 30000 {
		w.put(last, i, part(last, i, 30000-i))
	}
	w.check(t, last)
	for range 300 {
		if got := Full(w.h, run(last)); len(got) != 1000 {
			t.Errorf("P17.2: Full of an array of 30000 parts of itself has %d bytes", len(got))
		}
	}
	blanks := w.list(slices.Repeat([]api.Object{run(name(""))}, 2000)...)
	w.want(t, blanks, "-array-", "["+strings.Repeat(" ", 999))
	w.want(t, part(blanks, 0, 1000), "-array-", "["+strings.Repeat(" ", 999))
	w.want(t, part(blanks, 0, 999), "-array-", "["+strings.Repeat(" ", 998)+"]")
	w.want(t, part(blanks, 0, 998), "-array-", "["+strings.Repeat(" ", 997)+"]")
}

// TestCut: the text ends behind the 1000th byte, wherever that is.
func TestCut(t *testing.T) {
	for size := 996; size <= 1004; size++ {
		w := newWorld(heap.New())
		pad := strings.Repeat("p", size)
		for _, c := range []struct {
			o    api.Object
			full string
		}{
			{run(name(pad)), pad},
			{name(pad[1:]), "/" + pad[1:]},
			{w.text(pad[2:]), "(" + pad[2:] + ")"},
			{w.list(w.text(pad[4:])), "[(" + pad[4:] + ")]"},
			{run(w.list(w.text(pad[6:]), num(1))), "{(" + pad[6:] + ") 1}"},
			{w.list(w.list(w.text(pad[6:]))), "[[(" + pad[6:] + ")]]"},
		} {
			if len(c.full) != size {
				t.Fatalf("the test's own text has %d bytes, want %d", len(c.full), size)
			}
			w.want(t, c.o, Plain(w.h, c.o), c.full[:min(size, 1000)])
		}
	}
}

// TestCutAnywhere moves a text with parts of all kinds over the 1000th byte.
func TestCutAnywhere(t *testing.T) {
	w := newWorld(heap.New())
	d, _ := w.h.Dict(0)
	tail := w.list(
		w.text("a(\\\n\x00\xff"), name("name"), run(name("name")), num(-2147483647), fixed(-1), operator(162),
		run(w.list(run(name("x")), w.list())), d, nothing(), api.Object{Kind: api.Mark}, truthOf(0), api.Object{Kind: api.Save, N: 1},
	)
	const written = `[(a\(\\\n\000\377) /name name -2147483647 -0.00002 --setscreen-- {x []} -dict- null -mark- false -save-]`
	w.want(t, tail, "-array-", written)
	pad := w.text(strings.Repeat("p", 999))
	for n := 850; n <= 999; n++ {
		whole := "[(" + strings.Repeat("p", n) + ") " + written + "]"
		w.want(t, w.list(part(pad, 0, n), tail), "-array-", whole[:min(1000, len(whole))])
	}
	for n := 900; n <= 1010; n++ {
		w := newWorld(heap.New())
		whole := strings.Repeat("p", n) + "(\x00) \\"
		w.want(t, w.text(whole), whole, paren(whole)[:min(1000, len(paren(whole)))])
	}
}

// TestHeapAsBefore: the heap is what it was, its locks too.
func TestHeapAsBefore(t *testing.T) {
	w := filled(t)
	locked := w.list(num(1), num(2))
	free := w.list(locked, w.text("s"))
	w.h.Lock(locked)
	done := w.watch(t)
	for _, o := range []api.Object{locked, run(locked), free, w.lists[free.N][1], {Kind: api.Dict}} {
		w.check(t, o)
	}
	if e := w.h.Set(locked, 0, num(3)); e != api.ErrArg {
		t.Errorf("P17.2: a locked cell afterwards: %d", e)
	}
	if e := w.h.Set(free, 0, locked); e != api.OK {
		t.Errorf("P17.2: a cell that is not locked afterwards: %d", e)
	}
	done()
}

// reader makes objects of the tokens of a text, as layer 22 does, and arrays of what is in brackets.
type reader struct {
	w    *world
	l    []api.Token
	bads int
}

func (r *reader) next() api.Object {
	k := r.l[0]
	r.l = r.l[1:]
	switch k.Kind {
	case api.TInt:
		return num(k.N)
	case api.TFix:
		return fixed(k.N)
	case api.TLit:
		return name(k.S)
	case api.TName:
		return run(name(k.S))
	case api.TString:
		return r.w.text(k.S)
	case api.TLeft:
		return r.w.list(r.until(api.TRight)...)
	case api.TOpen:
		return run(r.w.list(r.until(api.TClose)...))
	}
	r.bads++
	return api.Object{}
}

func (r *reader) until(kind int) (l []api.Object) {
	for len(r.l) > 0 && r.l[0].Kind != kind {
		l = append(l, r.next())
	}
	if len(r.l) == 0 {
		r.bads++
		return l
	}
	r.l = r.l[1:]
	return l
}

// alike reports whether two objects are the same, strings by their bytes and arrays by their items.
func (w *world) alike(a, b api.Object) bool {
	if a.Kind != b.Kind {
		return false
	}
	switch a.Kind {
	case api.String:
		return w.plain(a) == w.plain(b)
	case api.Array:
		l, _ := w.items(a)
		m, _ := w.items(b)
		return a.Exec == b.Exec && slices.EqualFunc(l, m, w.alike)
	}
	return a == b
}

// readAgain reads the text of an object and holds what comes out against it.
func (w *world) readAgain(t *testing.T, o api.Object) {
	t.Helper()
	text := Full(w.h, o)
	l, _, e := token.All(text)
	if e != api.OK || len(l) == 0 {
		t.Fatalf("P17.3: %q has %d tokens: %d", text, len(l), e)
	}
	r := &reader{w: w, l: l}
	if got := r.next(); !w.alike(got, o) || len(r.l) != 0 || r.bads != 0 {
		t.Errorf("P17.3: %q is read as %v, want %v", text, got, o)
	}
}

func TestReadAgain(t *testing.T) {
	w := newWorld(heap.New())
	for _, n := range []int{0, 1, -1, 9, 10, -2147483647, 2147483647, 65536} {
		w.readAgain(t, num(n))
	}
	for _, n := range []int{0, 1, -1, 65536, -98304, 1073741823, -1073741823, 12345, 655} {
		w.readAgain(t, fixed(n))
	}
	for _, s := range []string{"a", "x-1", "1e3", "-", "true", "\x01\xff", "37#1", strings.Repeat("n", 100)} {
		w.readAgain(t, name(s))
		w.readAgain(t, run(name(s)))
	}
	w.readAgain(t, name(""))
	w.readAgain(t, name("12"))
	for _, s := range []string{"", "a", "()", ")(", "\\", "\\n", "\r\n", "\n\r", "%", everyByte(), "\x001", strings.Repeat("s", 998)} {
		w.readAgain(t, w.text(s))
		w.readAgain(t, w.list(part(w.text(s+"s"), 0, min(len(s), 900)), num(1)))
	}
	for n := 1; n <= 19; n++ {
		w.readAgain(t, w.nested(n, n%2 == 0))
	}
	w.readAgain(t, w.nested(20, true))
}

// some returns an object that is read again: a number, a name, a string or an array of such objects.
func (w *world) some(r *rand.Rand, deep int) api.Object {
	const letters = "abcxyz=+*&\x80"
	kind := r.IntN(8)
	switch {
	case kind == 0:
		return num(r.IntN(1<<32-1) - 2147483647)
	case kind == 1:
		return fixed(r.IntN(1<<31-1) - 1073741823)
	case kind == 2:
		return fixed(r.IntN(400000) - 200000)
	case kind <= 4:
		o := name("n")
		for range r.IntN(4) {
			o.S += letters[r.IntN(len(letters)):][:1]
		}
		o.Exec = kind == 4
		return o
	case kind == 5 || deep == 5:
		b := make([]byte, r.IntN(6))
		for i := range b {
			b[i] = byte(r.IntN(256))
		}
		return w.text(string(b))
	}
	var l []api.Object
	for range r.IntN(4) {
		l = append(l, w.some(r, deep+1))
	}
	o := w.list(l...)
	o.Exec = kind == 6
	return o
}

func TestReadAgainAtRandom(t *testing.T) {
	r := rand.New(rand.NewPCG(17, 3))
	for range 2000 {
		w := newWorld(heap.New())
		o := w.some(r, 0)
		w.check(t, o)
		if len(Full(w.h, o)) < 1000 {
			w.readAgain(t, o)
		}
	}
}

// TestRandomHeaps writes arrays that contain each other, parts of each other and objects of all kinds.
func TestRandomHeaps(t *testing.T) {
	r := rand.New(rand.NewPCG(17, 2))
	for range 800 {
		w := filled(t)
		all := slices.Clone(w.lists[5])
		var lists []api.Object
		for range 1 + r.IntN(6) {
			o := w.empty(r.IntN(5))
			lists = append(lists, o)
			at := r.IntN(o.Len + 1)
			all = append(all, o, run(o), part(o, at, r.IntN(o.Len-at+1)))
		}
		for _, o := range lists {
			for i := range o.Len {
				w.put(o, i, all[r.IntN(len(all))])
			}
		}
		done := w.watch(t)
		for _, o := range all {
			w.check(t, o)
		}
		done()
	}
}
