package dict

import (
	"math"
	"slices"
	"strings"
	"testing"

	"tympan/api"
	"tympan/heap"
)

type pair struct{ k, v api.Object }

// book is a dictionary of the model.
type book struct {
	room   int
	locked bool
	pairs  []pair
}

// world is a heap, what its dictionaries are by the chapter said a second time, and what its other cells are.
type world struct {
	h     *heap.Heap
	books map[int]*book // by the number of the cell
	texts map[int]string
	lists map[int][]api.Object
}

func num(n int) api.Object { return api.Object{Kind: api.Int, N: n} }

func fixed(n int) api.Object { return api.Object{Kind: api.Fix, N: n} }

func name(s string) api.Object { return api.Object{Kind: api.Name, S: s} }

func nothing() api.Object { return api.Object{Kind: api.Null} }

func run(o api.Object) api.Object {
	o.Exec = true
	return o
}

func dictOf(cell int) api.Object { return api.Object{Kind: api.Dict, N: cell} }

func start() *world {
	return &world{heap.New(), map[int]*book{}, map[int]string{}, map[int][]api.Object{}}
}

func (w *world) dict(t *testing.T, n int) api.Object {
	t.Helper()
	cells := w.h.Cells()
	d, e := New(w.h, n)
	if e != api.OK || d != dictOf(cells) || w.h.Cells() != cells+1 {
		t.Fatalf("P12.1: New(%d): %v, %d", n, d, e)
	}
	w.books[d.N] = &book{room: n}
	return d
}

func (w *world) text(s string) api.Object {
	o, _ := w.h.String(s)
	w.texts[o.N] = s
	return o
}

func (w *world) list(n int) api.Object {
	o, _ := w.h.Array(n)
	w.lists[o.N] = slices.Repeat([]api.Object{nothing()}, n)
	return o
}

func (w *world) lock(d api.Object) {
	w.h.Lock(d)
	w.books[d.N].locked = true
}

// equal is what obj's Same says of valid objects.
func equal(a, b api.Object) bool {
	scale := func(o api.Object) (n int, ok bool) {
		switch o.Kind {
		case api.Int:
			return o.N * 65536, true
		case api.Fix:
			return o.N, true
		}
		return 0, false
	}
	m, ok1 := scale(a)
	n, ok2 := scale(b)
	if ok1 && ok2 {
		return m == n
	}
	return a.Kind == b.Kind && a.N == b.N && a.At == b.At && a.Len == b.Len && a.S == b.S
}

func (w *world) wantKey(o api.Object) (api.Object, api.Errno) {
	if o.Kind == api.Null {
		return api.Object{}, api.ErrType
	}
	if !w.h.May(o) {
		return api.Object{}, api.ErrArg
	}
	if o.Kind != api.String {
		return api.Object{Kind: o.Kind, N: o.N, At: o.At, Len: o.Len, S: o.S}, api.OK
	}
	if o.Len > 100 {
		return api.Object{}, api.ErrLimit
	}
	return name(w.texts[o.N][o.At : o.At+o.Len]), api.OK
}

func (w *world) wantBook(d api.Object) (*book, api.Errno) {
	if d.Kind != api.Dict {
		return &book{}, api.ErrType
	}
	b := w.books[d.N]
	if b == nil || d.At != 0 || d.Len != 0 || d.S != "" {
		return &book{}, api.ErrArg
	}
	return b, api.OK
}

// want returns the book, the key and the index of its pair, which is -1 if there is none.
func (w *world) want(d, k api.Object) (*book, api.Object, int, api.Errno) {
	b, e := w.wantBook(d)
	if e != api.OK {
		return b, k, -1, e
	}
	k, e = w.wantKey(k)
	return b, k, slices.IndexFunc(b.pairs, func(p pair) bool { return equal(p.k, k) }), e
}

func (w *world) key(t *testing.T, o api.Object) (api.Object, api.Errno) {
	t.Helper()
	k, e := Key(w.h, o)
	want, f := w.wantKey(o)
	if k != want || e != f {
		t.Fatalf("P12.1: Key(%v): %v, %d, want %v, %d", o, k, e, want, f)
	}
	return k, e
}

func (w *world) get(t *testing.T, d, k api.Object) (api.Object, api.Errno) {
	t.Helper()
	v, e := Get(w.h, d, k)
	b, _, i, f := w.want(d, k)
	var want api.Object
	if f == api.OK && i < 0 {
		f = api.ErrName
	}
	if f == api.OK {
		want = b.pairs[i].v
	}
	if v != want || e != f {
		t.Fatalf("P12.2: Get(%v, %v): %v, %d, want %v, %d", d, k, v, e, want, f)
	}
	return v, e
}

func (w *world) set(t *testing.T, d, k, v api.Object) api.Errno {
	t.Helper()
	b, key, i, f := w.want(d, k)
	may := w.h.May(v)
	e := Set(w.h, d, k, v)
	switch {
	case f != api.OK:
	case !may || b.locked:
		f = api.ErrArg
	case i >= 0:
		b.pairs[i].v = v
	case len(b.pairs) == b.room:
		f = api.ErrFull
	default:
		b.pairs = append(b.pairs, pair{key, v})
	}
	if e != f {
		t.Fatalf("P12.2: Set(%v, %v, %v): %d, want %d", d, k, v, e, f)
	}
	return e
}

func (w *world) drop(t *testing.T, d, k api.Object) api.Errno {
	t.Helper()
	b, _, i, f := w.want(d, k)
	e := Drop(w.h, d, k)
	switch {
	case f != api.OK || i < 0:
	case b.locked:
		f = api.ErrArg
	default:
		b.pairs = slices.Delete(b.pairs, i, i+1)
	}
	if e != f {
		t.Fatalf("P12.2: Drop(%v, %v): %d, want %d", d, k, e, f)
	}
	return e
}

// flat returns the keys and values of a book, one after the other.
func (b *book) flat() []api.Object {
	var l []api.Object
	for _, p := range b.pairs {
		l = append(l, p.k, p.v)
	}
	return l
}

// look calls what reads all of a dictionary.
func (w *world) look(t *testing.T, d api.Object) api.Errno {
	t.Helper()
	b, f := w.wantBook(d)
	n, e := Len(w.h, d)
	if n != len(b.pairs) || e != f {
		t.Fatalf("P12.3: Len(%v): %d, %d, want %d, %d", d, n, e, len(b.pairs), f)
	}
	n, e = Room(w.h, d)
	if n != b.room || e != f {
		t.Fatalf("P12.3: Room(%v): %d, %d, want %d, %d", d, n, e, b.room, f)
	}
	l, e := Pairs(w.h, d)
	if !slices.Equal(l, b.flat()) || e != f {
		t.Fatalf("P12.3: Pairs(%v): %v, %d, want %v, %d", d, l, e, b.flat(), f)
	}
	return e
}

// check compares all cells of the heap, the items that are not in use and the locks among them, with the model.
func (w *world) check(t *testing.T, what string) {
	t.Helper()
	if cells := len(w.books) + len(w.texts) + len(w.lists); w.h.Cells() != cells {
		t.Fatalf("%s: %d cells, want %d", what, w.h.Cells(), cells)
	}
	for n, b := range w.books {
		w.look(t, dictOf(n))
		want := append([]api.Object{num(len(b.pairs))}, b.flat()...)
		want = append(want, slices.Repeat([]api.Object{nothing()}, 2*(b.room-len(b.pairs)))...)
		got, e := w.h.Items(dictOf(n))
		if e != api.OK || !slices.Equal(got, want) {
			t.Fatalf("%s: cell %d: %v, want %v", what, n, got, want)
		}
		if e := w.h.Set(dictOf(n), 0, got[0]); (e != api.OK) != b.locked {
			t.Fatalf("%s: cell %d: locked %v", what, n, e != api.OK)
		}
	}
	for n, s := range w.texts {
		if got, e := w.h.Bytes(api.Object{Kind: api.String, N: n, Len: len(s)}); e != api.OK || got != s {
			t.Fatalf("%s: cell %d: %q, want %q", what, n, got, s)
		}
	}
	for n, l := range w.lists {
		if got, e := w.h.Items(api.Object{Kind: api.Array, N: n, Len: len(l)}); e != api.OK || !slices.Equal(got, l) {
			t.Fatalf("%s: cell %d: %v, want %v", what, n, got, l)
		}
	}
}

// copy returns a world of its own with a copy of the heap.
func (w *world) copy() *world {
	c := start()
	c.h = w.h.Copy()
	for n, b := range w.books {
		c.books[n] = &book{b.room, b.locked, slices.Clone(b.pairs)}
	}
	for n, s := range w.texts {
		c.texts[n] = s
	}
	for n, l := range w.lists {
		c.lists[n] = l
	}
	return c
}

// mixed has an array, strings of the lengths that matter and dictionaries: with room left, full, without room, locked, locked and full, locked and empty.
func mixed(t *testing.T) *world {
	t.Helper()
	w := start()
	w.list(3)
	w.text("")
	w.text("abc")
	w.text(strings.Repeat("n", 100))
	w.text(strings.Repeat("n", 101))
	for _, c := range []struct {
		room, pairs int
		locked      bool
	}{{4, 3, false}, {3, 3, false}, {0, 0, false}, {4, 3, true}, {3, 3, true}, {2, 0, true}} {
		d := w.dict(t, c.room)
		for i := range c.pairs {
			w.set(t, d, []api.Object{name("abc"), num(1), {Kind: api.Bool}}[i], num(100*d.N+i))
		}
		if c.locked {
			w.lock(d)
		}
	}
	w.check(t, "mixed")
	return w
}

// extremes are numbers that are no field of a valid object.
func extremes() []int {
	return []int{math.MinInt, math.MinInt + 1, -1 << 32, -1 << 31, 1 << 31, 1 << 32, 1<<32 + 1, math.MaxInt - 1, math.MaxInt}
}

// objects returns objects of every kind and of kinds that are none, valid ones and others: with every field set alone, and with small and extreme numbers.
func objects() []api.Object {
	var l []api.Object
	for kind := -1; kind <= 13; kind++ {
		for n := -1; n <= 12; n++ {
			for length := range 5 {
				l = append(l, api.Object{Kind: kind, N: n, Len: length}, api.Object{Kind: kind, N: n, At: 1, Len: length})
			}
		}
		for _, s := range []string{"a", "abc", "\x00\xff", strings.Repeat("n", 100), strings.Repeat("n", 101)} {
			l = append(l, api.Object{Kind: kind, S: s}, api.Object{Kind: kind, N: 1, S: s}, api.Object{Kind: kind, N: 2, Len: 3, S: s}, api.Object{Kind: kind, N: 5, S: s})
		}
		l = append(l, api.Object{Kind: kind, N: 3, Len: 100}, api.Object{Kind: kind, N: 4, Len: 101}, api.Object{Kind: kind, N: 4, Len: 100}, api.Object{Kind: kind, N: 4, At: 1, Len: 100}, api.Object{Kind: kind, N: 4, At: 1, Len: 101})
		for _, v := range append(extremes(), -1<<30, -1<<30+1, 1<<30-1, 1<<30, 1-1<<31, 1<<31-1, -40001, -40000, 40000, 40001, 200, 201) {
			l = append(l, api.Object{Kind: kind, N: v}, api.Object{Kind: kind, At: v}, api.Object{Kind: kind, Len: v}, api.Object{Kind: kind, At: v, Len: v}, api.Object{Kind: kind, N: 2, At: v, Len: 3}, api.Object{Kind: kind, N: 5, At: v}, api.Object{Kind: kind, N: 5, Len: v})
		}
	}
	for _, v := range extremes() {
		l = append(l, api.Object{Kind: v}, api.Object{Kind: v, N: v, At: v, Len: v, S: "a"}, api.Object{Kind: v, S: "a"})
	}
	for _, o := range l {
		l = append(l, run(o))
	}
	return l
}

// valid returns the objects that may be keys or values in the heap of mixed.
func valid(w *world) []api.Object {
	return slices.DeleteFunc(objects(), func(o api.Object) bool { return !w.h.May(o) })
}
