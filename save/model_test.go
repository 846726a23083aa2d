package save

import (
	"math"
	"slices"
	"strings"
	"testing"

	"tympan/api"
	"tympan/heap"
)

// cell is what can be observed of a cell of a heap, bytes as Ints.
type cell struct {
	whole  api.Object // refers to all of it
	items  []api.Object
	locked bool
}

// shot is a save of the model.
type shot struct {
	n     int
	cells []cell
}

// world is a heap with its saves, and what they are by the chapter said a second time, with the limits written out.
type world struct {
	h    *heap.Heap
	s    *Saves
	open []shot
	last int
}

func start() *world { return &world{h: heap.New(), s: New()} }

func num(n int) api.Object { return api.Object{Kind: 3, N: n} }

func name(s string) api.Object { return api.Object{Kind: 5, S: s} }

func saveOf(n int) api.Object { return api.Object{Kind: 11, N: n} }

func run(o api.Object) api.Object {
	o.Exec = true
	return o
}

// picture returns all cells of a heap, by calls that change nothing.
func picture(t *testing.T, h *heap.Heap) []cell {
	t.Helper()
	var l []cell
	used := 0
	for n := range h.Cells() {
		c := look(t, h, n)
		used += len(c.items)
		l = append(l, c)
	}
	if h.Used() != used {
		t.Fatalf("%d items and bytes are used, but the cells have %d", h.Used(), used)
	}
	return l
}

// look returns the cell n.
func look(t *testing.T, h *heap.Heap, n int) cell {
	t.Helper()
	c := cell{whole: api.Object{Kind: 10, N: n}}
	for _, kind := range []int{8, 9} {
		o := api.Object{Kind: kind, N: n}
		if !h.May(o) {
			continue
		}
		for h.May(o) {
			o.Len++
		}
		o.Len--
		c.whole = o
	}
	size, e := h.Size(c.whole)
	if e != 0 {
		t.Fatalf("cell %d is none: %d", n, e)
	}
	for i := range size {
		x, e := h.Get(c.whole, i)
		if e != 0 {
			t.Fatalf("item %d of cell %d: %d", i, n, e)
		}
		c.items = append(c.items, x)
	}
	c.locked = isLocked(t, h, c)
	return c
}

// isLocked tries to change a cell into what it is.
func isLocked(t *testing.T, h *heap.Heap, c cell) bool {
	t.Helper()
	var e api.Errno
	if len(c.items) > 0 {
		e = h.Set(c.whole, 0, c.items[0])
	} else {
		e = h.Put(c.whole, 0, c.whole)
	}
	if e != 0 && e != 1 {
		t.Fatalf("a change of %v: %d", c.whole, e)
	}
	return e == 1
}

func alike(a, b cell) bool {
	return a.whole == b.whole && a.locked == b.locked && slices.Equal(a.items, b.items)
}

// index returns the index of the open save whose object o is, and -1 if there is none.
func (w *world) index(o api.Object) int {
	return slices.IndexFunc(w.open, func(one shot) bool {
		return o == saveOf(one.n) || o == run(saveOf(one.n))
	})
}

func (w *world) save(t *testing.T) api.Object {
	t.Helper()
	before := picture(t, w.h)
	o, e := w.s.Save(w.h)
	var want api.Object
	f := api.Errno(5)
	if len(w.open) < 10 {
		w.last++
		want, f = saveOf(w.last), 0
		w.open = append(w.open, shot{w.last, before})
	}
	if o != want || e != f {
		t.Fatalf("P13.1: Save: %v, %d, want %v, %d", o, e, want, f)
	}
	return o
}

func (w *world) back(t *testing.T, o api.Object) api.Errno {
	t.Helper()
	want := picture(t, w.h)
	e := w.s.Back(w.h, o)
	f := api.Errno(17)
	if at := w.index(o); at >= 0 {
		f = 0
		want = w.open[at].cells
		w.open = w.open[:at]
	}
	if e != f {
		t.Fatalf("P13.2: Back(%v): %d, want %d", o, e, f)
	}
	if got := picture(t, w.h); !slices.EqualFunc(got, want, alike) {
		t.Fatalf("P13.2: Back(%v): the heap is %v, want %v", o, got, want)
	}
	return e
}

func (w *world) newer(t *testing.T, o, x api.Object) bool {
	t.Helper()
	want := false
	if at := w.index(o); at >= 0 {
		switch x.Kind {
		case 8, 9, 10:
			want = x.N >= len(w.open[at].cells)
		case 11:
			want = x.N >= w.open[at].n
		}
	}
	if got := w.s.Newer(o, x); got != want {
		t.Fatalf("P13.3: Newer(%v, %v): %v", o, x, got)
	}
	return want
}

// check compares the saves with the model. A copy of the saves tells what they stored.
func (w *world) check(t *testing.T, what string) {
	t.Helper()
	if w.s.Len() != len(w.open) {
		t.Fatalf("%s: Len: %d, want %d", what, w.s.Len(), len(w.open))
	}
	for n := -1; n <= w.last+2; n++ {
		if w.index(saveOf(n)) < 0 {
			w.newer(t, saveOf(n), saveOf(math.MaxInt))
		}
	}
	for _, one := range w.open {
		o := saveOf(one.n)
		for _, kind := range []int{8, 9, 10} {
			w.newer(t, o, api.Object{Kind: kind, N: len(one.cells) - 1})
			w.newer(t, o, api.Object{Kind: kind, N: len(one.cells)})
		}
		for _, later := range w.open {
			w.newer(t, o, saveOf(later.n))
		}
		s, g := *w.s, heap.New()
		if e := s.Back(g, o); e != 0 {
			t.Fatalf("%s: Back(%v): %d", what, o, e)
		}
		if got := picture(t, g); !slices.EqualFunc(got, one.cells, alike) {
			t.Fatalf("%s: stored by %v: %v, want %v", what, o, got, one.cells)
		}
	}
}

// mixed returns a world whose heap has cells of all kinds: with contents, empty ones and locked ones.
func mixed() *world {
	w := start()
	for i, n := range []int{3, 0, 2} {
		a, _ := w.h.Array(n)
		b, _ := w.h.String("wxyz"[:n])
		d, _ := w.h.Dict(n)
		for k := range n {
			w.h.Set(a, k, num(10*i+k))
		}
		w.h.Set(d, 2*n, name("last"))
		if i == 2 {
			w.h.Set(a, 0, d)
			w.h.Lock(a)
			w.h.Lock(b)
			w.h.Lock(d)
		}
	}
	return w
}

// stacked returns a world with the saves first to last open, before and between which cells were made and changed.
// All earlier saves are closed.
func stacked(t *testing.T, first, last int) *world {
	t.Helper()
	w := mixed()
	for range first - 1 {
		w.back(t, w.save(t))
	}
	for n := first; n <= last; n++ {
		w.h.Set(api.Object{Kind: 9, Len: 3}, 0, num(100*n))
		w.save(t)
		w.h.Array(n)
	}
	return w
}

// fields are what fields of objects are set to: numbers of saves and of cells, and numbers that are none.
func fields() []int {
	return []int{math.MinInt, math.MinInt + 1, -1 << 32, -1 << 31, 1 - 1<<31, -11, -2, -1, 0, 1, 2, 3, 4, 5, 6, 7, 8, 9, 10, 11, 12, 13, 14, 15, 16, 40000, 1<<31 - 1, 1 << 31, 1 << 32, 1<<32 + 3, math.MaxInt - 1, math.MaxInt}
}

// objects returns objects of every kind and of kinds that are none, with every number in every field.
func objects() []api.Object {
	var l []api.Object
	for _, kind := range append(fields(), 1<<32+11, 256+11, -245) {
		for _, v := range fields() {
			l = append(l, api.Object{Kind: kind, N: v}, api.Object{Kind: kind, N: 3, At: v}, api.Object{Kind: kind, N: 3, Len: v}, api.Object{Kind: kind, N: v, At: v, Len: v}, api.Object{Kind: kind, N: v, S: "s"})
		}
		for _, s := range []string{"\x00", "3", "save", strings.Repeat("n", 101)} {
			l = append(l, api.Object{Kind: kind, S: s}, api.Object{Kind: kind, N: 3, S: s})
		}
	}
	for _, o := range l {
		l = append(l, run(o))
	}
	return l
}
