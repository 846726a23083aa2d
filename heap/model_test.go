package heap

import (
	"slices"
	"testing"

	"tympan/api"
	"tympan/obj"
)

// modelCell is a cell whose bytes, too, are kept as objects.
type modelCell struct {
	kind   int
	items  []api.Object
	locked bool
}

// model is the chapter said a second time, with the limits written out.
type model struct{ cells []modelCell }

func num(n int) api.Object { return api.Object{Kind: 3, N: n} }

func nothing() api.Object { return api.Object{Kind: 1} }

func (m *model) used() int {
	sum := 0
	for _, c := range m.cells {
		sum += len(c.items)
	}
	return sum
}

func (m *model) add(kind int, items []api.Object) (api.Object, api.Errno) {
	if len(m.cells) == 2000 || m.used()+len(items) > 40000 {
		return api.Object{}, 5
	}
	m.cells = append(m.cells, modelCell{kind: kind, items: items})
	o := api.Object{Kind: kind, N: len(m.cells) - 1}
	if kind != 10 {
		o.Len = len(items)
	}
	return o, 0
}

func (m *model) array(n int) (api.Object, api.Errno) {
	if n < 0 {
		return api.Object{}, 2
	}
	if n > 40000 {
		return api.Object{}, 5
	}
	return m.add(9, slices.Repeat([]api.Object{nothing()}, n))
}

func (m *model) string(b string) (api.Object, api.Errno) {
	var items []api.Object
	for i := 0; i < len(b); i++ {
		items = append(items, num(int(b[i])))
	}
	return m.add(8, items)
}

func (m *model) dict(n int) (api.Object, api.Errno) {
	if n < 0 || n > 1000 {
		return api.Object{}, 2
	}
	items := slices.Repeat([]api.Object{nothing()}, 2*n+1)
	items[0] = num(0)
	return m.add(10, items)
}

// seen returns the items to which o refers, so that they can be changed.
func (m *model) seen(o api.Object) ([]api.Object, api.Errno) {
	if o.Kind < 8 || o.Kind > 10 {
		return nil, 6
	}
	if !m.may(o) {
		return nil, 1
	}
	items := m.cells[o.N].items
	if o.Kind == 10 {
		return items, 0
	}
	return items[o.At : o.At+o.Len], 0
}

func (m *model) may(o api.Object) bool {
	if !obj.May(o) {
		return false
	}
	if o.Kind < 8 || o.Kind > 10 {
		return true
	}
	if o.N >= len(m.cells) || m.cells[o.N].kind != o.Kind {
		return false
	}
	return o.At+o.Len <= len(m.cells[o.N].items)
}

func (m *model) size(o api.Object) (int, api.Errno) {
	l, e := m.seen(o)
	return len(l), e
}

func (m *model) get(o api.Object, i int) (api.Object, api.Errno) {
	l, e := m.seen(o)
	if e != 0 {
		return api.Object{}, e
	}
	if i < 0 || i >= len(l) {
		return api.Object{}, 12
	}
	return l[i], 0
}

func (m *model) set(o api.Object, i int, x api.Object) api.Errno {
	if _, e := m.get(o, i); e != 0 {
		return e
	}
	if m.cells[o.N].locked {
		return 1
	}
	if o.Kind == 8 {
		if x.Kind != 3 {
			return 6
		}
		if x.N < 0 || x.N > 255 {
			return 2
		}
		x = num(x.N)
	} else if !m.may(x) {
		return 1
	}
	l, _ := m.seen(o)
	l[i] = x
	return 0
}

// room reports whether n of size things begin at at.
func room(size, at, n int) bool {
	if at < 0 || n < 0 || at > size || n > size {
		return false
	}
	return at+n <= size
}

func (m *model) part(o api.Object, at, n int) (api.Object, api.Errno) {
	l, e := m.seen(o)
	if e != 0 {
		return api.Object{}, e
	}
	if o.Kind == 10 {
		return api.Object{}, 6
	}
	if !room(len(l), at, n) {
		return api.Object{}, 12
	}
	return api.Object{Kind: o.Kind, Exec: o.Exec, N: o.N, At: o.At + at, Len: n}, 0
}

func (m *model) put(o api.Object, at int, p api.Object) api.Errno {
	to, e := m.seen(o)
	if e != 0 {
		return e
	}
	from, e := m.seen(p)
	if e != 0 {
		return e
	}
	if o.Kind == 10 || p.Kind == 10 || o.Kind != p.Kind {
		return 6
	}
	if !room(len(to), at, len(from)) {
		return 12
	}
	if m.cells[o.N].locked {
		return 1
	}
	for i, x := range slices.Clone(from) {
		to[at+i] = x
	}
	return 0
}

func (m *model) items(o api.Object) ([]api.Object, api.Errno) {
	l, e := m.seen(o)
	if e == 0 && o.Kind == 8 {
		return nil, 6
	}
	return slices.Clone(l), e
}

func (m *model) bytes(o api.Object) (string, api.Errno) {
	l, e := m.seen(o)
	if e != 0 {
		return "", e
	}
	if o.Kind != 8 {
		return "", 6
	}
	var b []byte
	for _, x := range l {
		b = append(b, byte(x.N))
	}
	return string(b), 0
}

func (m *model) lock(o api.Object) api.Errno {
	_, e := m.seen(o)
	if e == 0 {
		m.cells[o.N].locked = true
	}
	return e
}

func (m *model) copy() *model {
	g := &model{}
	for _, c := range m.cells {
		c.items = slices.Clone(c.items)
		g.cells = append(g.cells, c)
	}
	return g
}

// whole returns the object of all of a cell.
func (m *model) whole(n int) api.Object {
	o := api.Object{Kind: m.cells[n].kind, N: n}
	if o.Kind != 10 {
		o.Len = len(m.cells[n].items)
	}
	return o
}

// check compares everything that can be observed of h with the model.
func (m *model) check(t *testing.T, h *Heap, what string) {
	t.Helper()
	if h.Cells() != len(m.cells) || h.Used() != m.used() {
		t.Fatalf("%s: %d cells with %d items, want %d with %d", what, h.Cells(), h.Used(), len(m.cells), m.used())
	}
	for n, c := range m.cells {
		o := m.whole(n)
		if got := read(t, h, o); !slices.Equal(got, c.items) {
			t.Fatalf("%s: cell %d: %v, want %v", what, n, got, c.items)
		}
		if got := isLocked(t, h, o); got != c.locked {
			t.Fatalf("%s: cell %d: locked %v, want %v", what, n, got, c.locked)
		}
	}
}

// read returns what o refers to, bytes as Ints.
func read(t *testing.T, h *Heap, o api.Object) []api.Object {
	t.Helper()
	if o.Kind != 8 {
		l, e := h.Items(o)
		if e != 0 {
			t.Fatalf("Items(%v): %d", o, e)
		}
		return l
	}
	b, e := h.Bytes(o)
	if e != 0 {
		t.Fatalf("Bytes(%v): %d", o, e)
	}
	var l []api.Object
	for i := 0; i < len(b); i++ {
		l = append(l, num(int(b[i])))
	}
	return l
}

// isLocked tries to change o, the object of a whole cell, into what it is.
func isLocked(t *testing.T, h *Heap, o api.Object) bool {
	t.Helper()
	var e api.Errno
	if l := read(t, h, o); len(l) > 0 {
		e = h.Set(o, 0, l[0])
	} else {
		e = h.Put(o, 0, o)
	}
	if e != 0 && e != 1 {
		t.Fatalf("a change of %v: %d", o, e)
	}
	return e == 1
}
