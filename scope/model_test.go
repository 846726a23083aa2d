package scope

import (
	"maps"
	"math"
	"slices"
	"strings"
	"testing"

	"tympan/api"
	"tympan/dict"
	"tympan/heap"
)

// operators are the names of the chapter of layer 15, in the order of their numbers.
const operators = `pop exch dup index roll clear count mark counttomark cleartomark add sub mul div idiv mod neg abs
ceiling floor round truncate sqrt sin cos atan and or xor not bitshift true false null min max [ <<
copy eq ne gt ge lt le array string length get put getinterval putinterval aload astore search anchorsearch ] cat
dict begin end def load store known undef where currentdict countdictstack maxlength >>
type cvlit cvx xcheck cvi cvr cvn cvs cvrs
exec if ifelse for repeat loop exit stop stopped forall quit bind print = == pstack save restore token lasterror vmstatus
gsave grestore initgraphics setmatrix currentmatrix translate scale rotate concat transform itransform dtransform
newpath moveto rmoveto lineto rlineto curveto rcurveto closepath rectpath currentpoint pathbox flattenpath reversepath
clip eoclip initclip fill eofill stroke rectfill setgray currentgray setrgbcolor currentrgbcolor setcover currentcover
setlinewidth currentlinewidth setlinecap currentlinecap setlinejoin currentlinejoin setdash currentdash
definefont findfont setfont currentfont show charpath stringwidth image imagemask showpage copypage erasepage
setpage pagesize setscreen`

type pair struct{ k, v api.Object }

// book is a dictionary of the model.
type book struct {
	room   int
	locked bool
	pairs  []pair
}

// content is what the cells of a heap are: dictionaries, strings, and arrays of which all items are Null; by the numbers of the cells.
type content struct {
	books map[int]*book
	texts map[int]string
	lists map[int]int
}

// world is a heap, a Scope of it, and what both are by the chapter said a second time.
type world struct {
	h *heap.Heap
	s *Scope
	content
	stack []api.Object
}

func num(n int) api.Object { return api.Object{Kind: api.Int, N: n} }

func fixed(n int) api.Object { return api.Object{Kind: api.Fix, N: n} }

func name(s string) api.Object { return api.Object{Kind: api.Name, S: s} }

func nothing() api.Object { return api.Object{Kind: api.Null} }

func operator(n int) api.Object { return api.Object{Kind: api.Op, Exec: true, N: n} }

func dictOf(cell int) api.Object { return api.Object{Kind: api.Dict, N: cell} }

func run(o api.Object) api.Object {
	o.Exec = true
	return o
}

// systemBook is the system dictionary of the chapter.
func systemBook() *book {
	b := &book{room: 162, locked: true}
	for i, n := range strings.Fields(operators) {
		b.pairs = append(b.pairs, pair{name(n), operator(i + 1)})
	}
	return b
}

// bare returns a world without a stack.
func bare() *world {
	return &world{heap.New(), nil, content{map[int]*book{}, map[int]string{}, map[int]int{}}, nil}
}

// start calls New and says what it makes.
func (w *world) start(t *testing.T) {
	t.Helper()
	cells := w.h.Cells()
	s, e := New(w.h)
	if s == nil || e != api.OK {
		t.Fatalf("P16.1: New: %v, %d", s, e)
	}
	w.s = s
	w.books[cells], w.books[cells+1] = systemBook(), &book{room: 200}
	w.stack = []api.Object{dictOf(cells), dictOf(cells + 1)}
}

func (w *world) dict(t *testing.T, n int, pairs ...pair) api.Object {
	t.Helper()
	d, e := dict.New(w.h, n)
	if e != api.OK {
		t.Fatalf("a dictionary: %d", e)
	}
	w.books[d.N] = &book{room: n}
	for _, p := range pairs {
		if e := dict.Set(w.h, d, p.k, p.v); e != api.OK {
			t.Fatalf("a pair: %d", e)
		}
		w.books[d.N].pairs = append(w.books[d.N].pairs, p)
	}
	return d
}

func (w *world) text(s string) api.Object {
	o, _ := w.h.String(s)
	w.texts[o.N] = s
	return o
}

func (w *world) list(n int) api.Object {
	o, _ := w.h.Array(n)
	w.lists[o.N] = n
	return o
}

func (w *world) lock(d api.Object) api.Object {
	w.h.Lock(d)
	w.books[d.N].locked = true
	return d
}

// equal is what obj's Same says of valid objects.
func equal(a, b api.Object) bool {
	scale := func(o api.Object) (n int, ok bool) {
		switch o.Kind {
		case api.Int:
			return o.N * 65536, true
		case api.Fix:
			return o.N, true
		}
		return 0, false
	}
	m, ok1 := scale(a)
	n, ok2 := scale(b)
	if ok1 && ok2 {
		return m == n
	}
	return a.Kind == b.Kind && a.N == b.N && a.At == b.At && a.Len == b.Len && a.S == b.S
}

// index returns the index of a key's pair, or -1.
func (b *book) index(k api.Object) int {
	return slices.IndexFunc(b.pairs, func(p pair) bool { return equal(p.k, k) })
}

// book returns the dictionary to which d refers, or nil.
func (c content) book(d api.Object) *book {
	if d.Kind != 10 || d.At != 0 || d.Len != 0 || d.S != "" {
		return nil
	}
	return c.books[d.N]
}

func (w *world) wantKey(o api.Object) (api.Object, api.Errno) {
	if o.Kind == api.Null {
		return api.Object{}, api.ErrType
	}
	if !w.h.May(o) {
		return api.Object{}, api.ErrArg
	}
	if o.Kind != api.String {
		return api.Object{Kind: o.Kind, N: o.N, At: o.At, Len: o.Len, S: o.S}, api.OK
	}
	if o.Len > 100 {
		return api.Object{}, api.ErrLimit
	}
	return name(w.texts[o.N][o.At : o.At+o.Len]), api.OK
}

// wantSet is dict's Set of the model.
func (w *world) wantSet(d, k, v api.Object) api.Errno {
	b := w.book(d)
	if b == nil {
		return api.ErrArg
	}
	k, e := w.wantKey(k)
	if e != api.OK {
		return e
	}
	if !w.h.May(v) || b.locked {
		return api.ErrArg
	}
	if i := b.index(k); i >= 0 {
		b.pairs[i].v = v
		return api.OK
	}
	if len(b.pairs) == b.room {
		return api.ErrFull
	}
	b.pairs = append(b.pairs, pair{k, v})
	return api.OK
}

func (w *world) wantFind(k api.Object) (v, d api.Object, e api.Errno) {
	k, e = w.wantKey(k)
	if e != api.OK {
		return v, d, e
	}
	for _, d := range slices.Backward(w.stack) {
		if b := w.book(d); b != nil && b.index(k) >= 0 {
			return b.pairs[b.index(k)].v, d, api.OK
		}
	}
	return v, d, api.ErrName
}

func (w *world) wantBegin(d api.Object) api.Errno {
	if d.Kind != 10 {
		return 6
	}
	if w.book(d) == nil {
		return 1
	}
	return 0
}

func (w *world) begin(t *testing.T, d api.Object) api.Errno {
	t.Helper()
	f := w.wantBegin(d)
	if f == 0 && len(w.stack) == 20 {
		f = 11
	}
	if f == 0 {
		w.stack = append(w.stack, d)
	}
	if e := w.s.Begin(d); e != f {
		t.Fatalf("P16.2: Begin(%v): %d, want %d", d, e, f)
	}
	return f
}

func (w *world) end(t *testing.T) api.Errno {
	t.Helper()
	var f api.Errno
	if len(w.stack) == 2 {
		f = 11
	} else {
		w.stack = w.stack[:len(w.stack)-1]
	}
	if e := w.s.End(); e != f {
		t.Fatalf("P16.2: End: %d, want %d", e, f)
	}
	return f
}

func (w *world) become(t *testing.T, l []api.Object) api.Errno {
	t.Helper()
	var f api.Errno
	if len(l) < 2 || len(l) > 20 {
		f = 11
	}
	for _, d := range l {
		if f == 0 {
			f = w.wantBegin(d)
		}
	}
	if f == 0 {
		w.stack = slices.Clone(l)
	}
	if e := w.s.Become(l); e != f {
		t.Fatalf("P16.2: Become(%v): %d, want %d", l, e, f)
	}
	return f
}

func (w *world) find(t *testing.T, k api.Object) (api.Object, api.Object, api.Errno) {
	t.Helper()
	v, d, e := w.s.Find(k)
	wantV, wantD, f := w.wantFind(k)
	if v != wantV || d != wantD || e != f {
		t.Fatalf("P16.3: Find(%v): %v, %v, %d, want %v, %v, %d", k, v, d, e, wantV, wantD, f)
	}
	return v, d, e
}

func (w *world) def(t *testing.T, k, v api.Object) api.Errno {
	t.Helper()
	e, f := w.s.Def(k, v), w.wantSet(w.stack[len(w.stack)-1], k, v)
	if e != f {
		t.Fatalf("P16.3: Def(%v, %v): %d, want %d", k, v, e, f)
	}
	return e
}

func (w *world) store(t *testing.T, k, v api.Object) api.Errno {
	t.Helper()
	_, d, f := w.wantFind(k)
	if f == api.ErrName || (f == api.OK && d.N == w.stack[0].N) {
		d, f = w.stack[len(w.stack)-1], api.OK
	}
	if f == api.OK {
		f = w.wantSet(d, k, v)
	}
	if e := w.s.Store(k, v); e != f {
		t.Fatalf("P16.3: Store(%v, %v): %d, want %d", k, v, e, f)
	}
	return f
}

// check compares the stack and all cells of the heap, the locks among them, with the model.
func (w *world) check(t *testing.T, what string) {
	t.Helper()
	if l, n := w.s.Dicts(), w.s.Depth(); !slices.Equal(l, w.stack) || n != len(w.stack) {
		t.Fatalf("%s: the stack is %v, Depth %d, want %v", what, l, n, w.stack)
	}
	w.checkHeap(t, what)
}

func (w *world) checkHeap(t *testing.T, what string) {
	t.Helper()
	if cells := len(w.books) + len(w.texts) + len(w.lists); w.h.Cells() != cells {
		t.Fatalf("%s: %d cells, want %d", what, w.h.Cells(), cells)
	}
	for n, b := range w.books {
		items, e := w.h.Items(dictOf(n))
		if want := b.items(); e != api.OK || !slices.Equal(items, want) {
			t.Fatalf("%s: cell %d: %v, want %v", what, n, items, want)
		}
		if e := w.h.Set(dictOf(n), 0, items[0]); (e != api.OK) != b.locked {
			t.Fatalf("%s: cell %d: locked %v", what, n, e != api.OK)
		}
	}
	for n, s := range w.texts {
		if got, e := w.h.Bytes(api.Object{Kind: api.String, N: n, Len: len(s)}); e != api.OK || got != s {
			t.Fatalf("%s: cell %d: %q, want %q", what, n, got, s)
		}
	}
	for n, size := range w.lists {
		got, e := w.h.Items(api.Object{Kind: api.Array, N: n, Len: size})
		if e != api.OK || !slices.Equal(got, slices.Repeat([]api.Object{nothing()}, size)) {
			t.Fatalf("%s: cell %d: %v", what, n, got)
		}
	}
}

// items returns what the cell of a book has.
func (b *book) items() []api.Object {
	l := []api.Object{num(len(b.pairs))}
	for _, p := range b.pairs {
		l = append(l, p.k, p.v)
	}
	return append(l, slices.Repeat([]api.Object{nothing()}, 2*(b.room-len(b.pairs)))...)
}

func (c content) copy() content {
	books := map[int]*book{}
	for n, b := range c.books {
		books[n] = &book{b.room, b.locked, slices.Clone(b.pairs)}
	}
	return content{books, maps.Clone(c.texts), maps.Clone(c.lists)}
}

// kept is a world at a moment.
type kept struct {
	h *heap.Heap
	content
	stack []api.Object
}

func (w *world) keep() kept {
	return kept{w.h.Copy(), w.content.copy(), slices.Clone(w.stack)}
}

// bringBack makes the heap what it was; the stack stays.
func (w *world) bringBack(k kept) {
	w.h.Become(k.h)
	w.content = k.content.copy()
}

// reset makes the heap and the stack what they were.
func (w *world) reset(t *testing.T, k kept) {
	t.Helper()
	w.bringBack(k)
	w.become(t, k.stack)
}

// The cells of mixed.
const (
	system = 5
	user   = 6
	open   = 7 // room left
	full   = 8
	closed = 9 // locked, with room left
	none   = 10
	both   = 11 // locked and full
)

// mixed has an array, strings of the lengths that matter, a stack of the system and the user dictionary, and dictionaries that are not on it.
func mixed(t *testing.T) *world {
	t.Helper()
	w := bare()
	w.list(3)
	w.text("")
	w.text("abc")
	w.text(strings.Repeat("n", 100))
	w.text(strings.Repeat("n", 101))
	w.start(t)
	w.dict(t, 4, pair{name("abc"), num(70)}, pair{num(1), num(71)}, pair{name("pop"), num(72)})
	w.dict(t, 3, pair{name("abc"), num(80)}, pair{name("exch"), num(81)}, pair{dictOf(open), num(82)})
	w.lock(w.dict(t, 3, pair{name("abc"), num(90)}, pair{name("dup"), num(91)}))
	w.dict(t, 0)
	w.lock(w.dict(t, 2, pair{name("abc"), run(num(110))}, pair{num(3), num(111)}))
	w.check(t, "mixed")
	return w
}

// stacks returns stacks of the dictionaries of mixed: with the system dictionary as the lowest one, without it, with it twice, and with others twice.
func stacks() [][]api.Object {
	var l [][]api.Object
	for _, cells := range [][]int{
		{system, user}, {user, system}, {system, system}, {user, user}, {open, full},
		{system, user, open}, {system, user, full}, {system, user, closed}, {system, user, none}, {system, user, both},
		{system, user, system}, {system, user, system, open}, {system, user, open, system, none},
		{system, user, open, full, closed, none, both}, {both, none, closed, full, open, user, system},
		{open, user, open}, {open, user, open, none}, {full, closed, full, user}, {closed, system, closed, open},
	} {
		var ds []api.Object
		for i, n := range cells {
			d := dictOf(n)
			d.Exec = i%3 == 2
			ds = append(ds, d)
		}
		l = append(l, ds)
	}
	return l
}

// extremes are numbers that are no field of a valid object.
func extremes() []int {
	return []int{math.MinInt, math.MinInt + 1, -1 << 32, -1 << 31, 1 << 31, 1 << 32, 1<<32 + 7, math.MaxInt - 1, math.MaxInt}
}

// objects returns objects of every kind and of kinds that are none, valid ones and others: with every field set alone, and with small and extreme numbers.
func objects() []api.Object {
	var l []api.Object
	for kind := -1; kind <= 13; kind++ {
		for n := -1; n <= 13; n++ {
			l = append(l, api.Object{Kind: kind, N: n}, api.Object{Kind: kind, N: n, At: 1}, api.Object{Kind: kind, N: n, Len: 3}, api.Object{Kind: kind, N: n, S: "a"})
		}
		for _, s := range []string{"abc", "\x00\xff", strings.Repeat("n", 100), strings.Repeat("n", 101)} {
			l = append(l, api.Object{Kind: kind, S: s}, api.Object{Kind: kind, N: 2, Len: 3, S: s})
		}
		l = append(l, api.Object{Kind: kind, N: 3, Len: 100}, api.Object{Kind: kind, N: 4, Len: 101}, api.Object{Kind: kind, N: 4, At: 1, Len: 100}, api.Object{Kind: kind, N: 4, At: 1, Len: 101})
		for _, v := range append(extremes(), -1<<30, 1-1<<30, 1<<30-1, 1<<30, 1-1<<31, 1<<31-1, -40000, 40000, 40001, 200, 201, 65536) {
			l = append(l, api.Object{Kind: kind, N: v}, api.Object{Kind: kind, N: open, At: v}, api.Object{Kind: kind, N: open, Len: v}, api.Object{Kind: kind, N: 2, At: v, Len: 3})
		}
	}
	for _, v := range append(extremes(), 256+10) {
		l = append(l, api.Object{Kind: v, N: open}, api.Object{Kind: v, N: v, At: v, Len: v, S: "abc"}, api.Object{Kind: v, S: "abc"})
	}
	for _, o := range l {
		l = append(l, run(o))
	}
	return l
}
