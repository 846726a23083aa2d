package heap

import (
	"math"
	"math/rand"
	"slices"
	"strings"
	"testing"

	"tympan/api"
)

// mixed returns a heap with cells of all kinds and sizes, of which some are locked.
func mixed(t *testing.T) *pair {
	t.Helper()
	p := start()
	for i, n := range []int{3, 0, 1, 4} {
		a := p.array(t, n)
		s := p.string(t, "wxyz"[:n])
		d := p.dict(t, i%3)
		for k := range n {
			p.set(t, a, k, num(100*i+k))
		}
		if i == 3 {
			p.lock(t, a)
			p.lock(t, s)
			p.lock(t, d)
		}
	}
	p.lock(t, api.Object{Kind: 9, N: 3})
	return p
}

func (p *pair) set(t *testing.T, o api.Object, i int, x api.Object) api.Errno {
	t.Helper()
	e, f := p.h.Set(o, i, x), p.m.set(o, i, x)
	agree(t, 0, e, 0, f, "P11.2: Set(%v, %d, %v)", o, i, x)
	return e
}

func (p *pair) get(t *testing.T, o api.Object, i int) {
	t.Helper()
	x, e := p.h.Get(o, i)
	want, f := p.m.get(o, i)
	agree(t, x, e, want, f, "P11.2: Get(%v, %d)", o, i)
}

func (p *pair) part(t *testing.T, o api.Object, at, n int) api.Object {
	t.Helper()
	q, e := p.h.Part(o, at, n)
	want, f := p.m.part(o, at, n)
	agree(t, q, e, want, f, "P11.3: Part(%v, %d, %d)", o, at, n)
	return q
}

func (p *pair) put(t *testing.T, o api.Object, at int, x api.Object) api.Errno {
	t.Helper()
	e, f := p.h.Put(o, at, x), p.m.put(o, at, x)
	agree(t, 0, e, 0, f, "P11.3: Put(%v, %d, %v)", o, at, x)
	return e
}

func (p *pair) lock(t *testing.T, o api.Object) api.Errno {
	t.Helper()
	e, f := p.h.Lock(o), p.m.lock(o)
	agree(t, 0, e, 0, f, "P11.3: Lock(%v)", o)
	return e
}

// look makes the calls that take an object alone and change nothing.
func (p *pair) look(t *testing.T, o api.Object) {
	t.Helper()
	if got, want := p.h.May(o), p.m.may(o); got != want {
		t.Fatalf("May(%v): %v", o, got)
	}
	n, e := p.h.Size(o)
	wantN, f := p.m.size(o)
	agree(t, n, e, wantN, f, "P11.2: Size(%v)", o)
	b, e := p.h.Bytes(o)
	wantB, f := p.m.bytes(o)
	agree(t, b, e, wantB, f, "P11.3: Bytes(%v)", o)
	l, e := p.h.Items(o)
	wantL, f := p.m.items(o)
	agree(t, slices.Equal(l, wantL), e, true, f, "P11.3: Items(%v): %v, want %v", o, l, wantL)
}

// fields are what the fields of objects are set to: all numbers of cells, all sizes, and numbers that are none.
func fields() []int {
	return []int{math.MinInt, math.MinInt + 1, -40000, -2, -1, 0, 1, 2, 3, 4, 5, 6, 7, 8, 9, 10, 11, 12, 13, 2000, 40000, 40001, 1 << 32, math.MaxInt - 1, math.MaxInt}
}

// pieces are objects of the kinds that refer to cells: valid ones and others.
func pieces() []api.Object {
	var l []api.Object
	for kind := 8; kind <= 10; kind++ {
		for _, n := range fields() {
			for _, at := range fields() {
				for _, size := range fields() {
					l = append(l, api.Object{Kind: kind, N: n, At: at, Len: size})
				}
			}
			for _, o := range []api.Object{{Exec: true}, {S: "s"}, {S: "\x00", Exec: true}} {
				o.Kind, o.N = kind, n
				l = append(l, o)
			}
		}
	}
	return l
}

// simple are objects that refer to no cell: of the other kinds, and of kinds that are none.
func simple() []api.Object {
	l := []api.Object{{}, {Kind: 3, At: 1}, {Kind: 3, Len: 1}, {Kind: 3, S: "s"}, {Kind: 3, N: 65, At: 7, Len: 9, S: "s", Exec: true}, {Kind: 5, S: strings.Repeat("n", 100)}, {Kind: 5, S: strings.Repeat("n", 101)}, {Kind: 5, S: "n", Exec: true}}
	for _, kind := range []int{math.MinInt, -10, -9, -8, -1, 0, 1, 2, 3, 4, 5, 6, 7, 11, 12, 13, 256 + 9, 1<<32 + 8, 1<<32 + 9, 1<<32 + 10, math.MaxInt} {
		for _, n := range []int{math.MinInt, -1, 0, 1, 200, 201, 254, 255, 256, 257, 65536, 1 << 32, 1<<31 - 1, 1 << 31, math.MaxInt} {
			l = append(l, api.Object{Kind: kind, N: n}, api.Object{Kind: kind, N: n, Exec: true})
		}
	}
	return l
}

func TestLook(t *testing.T) {
	p := mixed(t)
	for _, o := range append(pieces(), simple()...) {
		p.look(t, o)
		for _, i := range []int{math.MinInt, -2, -1, 0, 1, 2, 3, 4, 5, 6, math.MaxInt} {
			p.get(t, o, i)
		}
	}
	p.m.check(t, p.h, "P11.2: calls that change nothing")
}

// near are the objects with small fields, of which many belong to the heap.
func near() []api.Object {
	var l []api.Object
	for kind := 8; kind <= 10; kind++ {
		for n := -1; n <= 12; n++ {
			for at := -1; at <= 5; at++ {
				for size := -1; size <= 5; size++ {
					l = append(l, api.Object{Kind: kind, N: n, At: at, Len: size})
				}
			}
		}
	}
	return l
}

func TestPart(t *testing.T) {
	p := mixed(t)
	ends := []int{math.MinInt, -2, -1, 0, 1, 2, 3, 4, 5, math.MaxInt - 3, math.MaxInt - 1, math.MaxInt}
	for _, o := range append(near(), simple()...) {
		for _, o.Exec = range []bool{false, true} {
			for _, at := range ends {
				for _, n := range ends {
					p.part(t, o, at, n)
				}
			}
		}
	}
	for _, o := range pieces() {
		p.part(t, o, 0, 0)
	}
	p.m.check(t, p.h, "P11.3: Part")
}

func TestPartOfPart(t *testing.T) {
	p := start()
	p.string(t, "")
	for _, o := range []api.Object{p.array(t, 6), p.string(t, "abcdef")} {
		for i := range 6 {
			p.set(t, o, i, num(65+i))
		}
		for at := range 7 {
			for n := range 7 - at {
				q := p.part(t, o, at, n)
				p.look(t, q)
				for at2 := range n + 2 {
					for n2 := range n + 2 {
						r := p.part(t, q, at2, n2)
						if at2+n2 <= n && (r != api.Object{Kind: o.Kind, N: o.N, At: at + at2, Len: n2}) {
							t.Errorf("P11.3: part of part: %v", r)
						}
						p.look(t, r)
					}
				}
			}
		}
	}
}

// TestSet sets every object to every other one, on heaps that are renewed by Become, and looks at the heap after each call.
func TestSet(t *testing.T) {
	p := mixed(t)
	h, m := p.h.Copy(), p.m.copy()
	items := append(simple(), api.Object{Kind: 9, Len: 3}, api.Object{Kind: 9, Exec: true}, api.Object{Kind: 9, Len: 4}, api.Object{Kind: 8, N: 1, Len: 3}, api.Object{Kind: 8, N: 0}, api.Object{Kind: 10, N: 2}, api.Object{Kind: 10, N: 2, Len: 1}, api.Object{Kind: 10, N: 3}, api.Object{Kind: 9, N: 12}, api.Object{Kind: 9, N: math.MaxInt}, api.Object{Kind: 9, N: -1}, api.Object{Kind: 9, At: math.MaxInt, Len: math.MaxInt})
	for _, o := range []api.Object{{Kind: 9, Len: 3}, {Kind: 9, At: 1, Len: 2}, {Kind: 9, N: 9, Len: 4}, {Kind: 9, N: 12}, {Kind: 9, N: 3}, {Kind: 8, N: 1, Len: 3}, {Kind: 8, N: 1, At: 2, Len: 1, Exec: true}, {Kind: 8, N: 10, Len: 4}, {Kind: 8, N: 0}, {Kind: 10, N: 2}, {Kind: 10, N: 5}, {Kind: 10, N: 11}, {Kind: 10, N: 2, At: 1}, num(1), {}, {Kind: 12}} {
		for _, i := range []int{math.MinInt, -1, 0, 1, 2, 3, 4, math.MaxInt} {
			for _, x := range items {
				if p.set(t, o, i, x) == 0 {
					p.m.check(t, p.h, "P11.2: Set")
					p.h.Become(h)
					p.m = m.copy()
				}
			}
			p.m.check(t, p.h, "P11.2: Set that fails")
		}
	}
	p.m.check(t, p.h, "P11.2: Set")
}

// TestSetErrors has every error alone, and two at once.
func TestSetErrors(t *testing.T) {
	h := New()
	a, _ := h.Array(1)
	s, _ := h.String("s")
	d, _ := h.Dict(1)
	la, _ := h.Array(1)
	ls, _ := h.String("s")
	ld, _ := h.Dict(1)
	for _, o := range []api.Object{la, ls, ld} {
		h.Lock(o)
	}
	far, bad, name := api.Object{Kind: 9, N: 6}, api.Object{}, api.Object{Kind: 5, S: "n"}
	for i, c := range []struct {
		o    api.Object
		i    int
		x    api.Object
		want api.Errno
	}{
		{num(1), 0, num(1), 6}, {num(1), 1, bad, 6}, {api.Object{Kind: 3, At: 1}, 0, num(1), 6}, {api.Object{Kind: 0}, -1, bad, 6},
		{far, 0, num(1), 1}, {far, -1, bad, 1},
		{a, 1, num(1), 12}, {a, -1, num(1), 12}, {s, 1, num(1), 12}, {d, 3, num(1), 12}, {d, -1, num(1), 12},
		{a, 1, bad, 12}, {s, 1, name, 12}, {s, 1, num(256), 12}, {d, 3, bad, 12}, {la, 1, num(1), 12}, {ls, 1, num(1), 12}, {ld, 3, num(1), 12},
		{la, 0, num(1), 1}, {ls, 0, num(1), 1}, {ld, 0, num(1), 1}, {la, 0, bad, 1}, {ls, 0, name, 1}, {ls, 0, num(256), 1}, {ld, 2, bad, 1},
		{s, 0, name, 6}, {s, 0, bad, 6}, {s, 0, s, 6}, {s, 0, api.Object{Kind: 4, N: 1}, 6}, {s, 0, api.Object{Kind: 2, N: 1}, 6}, {s, 0, api.Object{Kind: 4, N: 256}, 6},
		{s, 0, num(256), 2}, {s, 0, num(-1), 2}, {s, 0, num(math.MaxInt), 2}, {s, 0, num(math.MinInt), 2}, {s, 0, api.Object{Kind: 3, N: 256, At: 1}, 2},
		{a, 0, bad, 1}, {a, 0, far, 1}, {a, 0, api.Object{Kind: 3, N: 1, At: 1}, 1}, {d, 0, bad, 1}, {d, 0, far, 1},
		{a, 0, a, 0}, {a, 0, d, 0}, {a, 0, s, 0}, {d, 0, name, 0}, {d, 2, d, 0}, {s, 0, num(0), 0}, {s, 0, num(255), 0}, {s, 0, api.Object{Kind: 3, N: 7, At: 1, Len: 2, S: "s", Exec: true}, 0},
	} {
		if e := h.Set(c.o, c.i, c.x); e != c.want {
			t.Errorf("P11.2: row %d: Set(%v, %d, %v): %d, want %d", i, c.o, c.i, c.x, e, c.want)
		}
	}
	if x, e := h.Get(s, 0); x != num(7) || e != 0 {
		t.Errorf("P11.2: a byte: %v, %d", x, e)
	}
}

// TestItemIsKept: an item has all fields of the object that was set, Exec too.
func TestItemIsKept(t *testing.T) {
	h := New()
	a, _ := h.Array(3)
	for _, x := range []api.Object{nothing(), {Kind: 1, Exec: true}, {Kind: 2, N: 1}, num(-2147483647), {Kind: 4, N: 5, Exec: true}, {Kind: 5, S: "name", Exec: true}, {Kind: 6}, {Kind: 7, N: 200, Exec: true}, {Kind: 9, At: 1, Len: 2, Exec: true}, {Kind: 11, N: 1}} {
		if e := h.Set(a, 1, x); e != 0 {
			t.Errorf("P11.2: Set %v: %d", x, e)
		}
		if got, e := h.Get(a, 1); got != x || e != 0 {
			t.Errorf("P11.2: %v: %v, %d", x, got, e)
		}
	}
	if l, _ := h.Items(a); l[0] != nothing() || l[2] != nothing() {
		t.Errorf("P11.2: neighbours: %v", l)
	}
}

func TestPut(t *testing.T) {
	p := mixed(t)
	h, m := p.h.Copy(), p.m.copy()
	var l []api.Object
	for _, o := range near() {
		// All objects of a few cells: two arrays, two strings, a dictionary, one that is locked, one that is none.
		if slices.Contains([]int{0, 1, 2, 9, 10, 12}, o.N) && (o.At >= 0 && o.Len >= 0 && o.At+o.Len <= 4 || o.At == 1 && o.Len == -1) {
			l = append(l, o)
		}
	}
	for _, o := range append(l, num(1), api.Object{}, api.Object{Kind: 9, At: math.MaxInt, Len: math.MaxInt}) {
		for _, x := range append(l, num(1), api.Object{}, api.Object{Kind: 8, N: math.MaxInt}) {
			for _, at := range []int{math.MinInt, -1, 0, 1, 2, 3, 4, 5, math.MaxInt - 2, math.MaxInt} {
				if p.put(t, o, at, x) == 0 {
					p.m.check(t, p.h, "P11.3: Put")
					p.h.Become(h)
					p.m = m.copy()
				}
			}
		}
		p.m.check(t, p.h, "P11.3: Put that fails")
	}
}

// TestPutErrors has every error alone, and two at once.
func TestPutErrors(t *testing.T) {
	h := New()
	a, _ := h.Array(2)
	s, _ := h.String("st")
	d, _ := h.Dict(1)
	la, _ := h.Array(2)
	ls, _ := h.String("ST")
	h.Lock(la)
	h.Lock(ls)
	far, none := api.Object{Kind: 9, N: 5}, api.Object{Kind: 9}
	for i, c := range []struct {
		o    api.Object
		at   int
		p    api.Object
		want api.Errno
	}{
		{num(1), 0, a, 6}, {num(1), 0, far, 6}, {api.Object{}, 9, far, 6},
		{far, 0, a, 1}, {far, 0, num(1), 1}, {far, 9, d, 1},
		{a, 0, num(1), 6}, {d, 0, num(1), 6}, {d, 0, far, 1}, {a, 0, far, 1}, {s, 0, far, 1}, {la, 9, far, 1}, {a, 9, num(1), 6},
		{d, 0, d, 6}, {a, 0, d, 6}, {d, 0, a, 6}, {a, 0, s, 6}, {s, 0, a, 6}, {a, 9, s, 6}, {la, 0, s, 6}, {ls, 9, la, 6}, {s, 0, none, 6},
		{a, 1, a, 12}, {a, -1, none, 12}, {a, 3, none, 12}, {s, 1, s, 12}, {a, math.MaxInt, a, 12}, {a, math.MinInt, a, 12}, {la, 1, a, 12}, {ls, 1, s, 12}, {ls, -1, s, 12},
		{la, 0, a, 1}, {la, 2, none, 1}, {la, 0, none, 1}, {ls, 0, s, 1}, {la, 0, la, 1},
		{a, 0, la, 0}, {s, 0, ls, 0}, {a, 2, none, 0}, {a, 0, a, 0},
	} {
		if e := h.Put(c.o, c.at, c.p); e != c.want {
			t.Errorf("P11.3: row %d: Put(%v, %d, %v): %d, want %d", i, c.o, c.at, c.p, e, c.want)
		}
	}
}

// TestOverlap puts every part of a cell to every place in it.
func TestOverlap(t *testing.T) {
	for at := range 7 {
		for n := range 7 - at {
			for to := range 7 - n {
				p := start()
				for _, o := range []api.Object{p.string(t, "abcdef"), p.array(t, 6)} {
					for i := range 6 {
						p.set(t, o, i, num(65+i))
					}
					if e := p.put(t, o, to, p.part(t, o, at, n)); e != 0 {
						t.Errorf("P11.3: %d from %d to %d: %d", n, at, to, e)
					}
				}
				p.m.check(t, p.h, "P11.3: Put into itself")
			}
		}
	}
}

func TestShared(t *testing.T) {
	h := New()
	a, _ := h.Array(2)
	p, _ := h.Part(a, 1, 1)
	if e := h.Set(p, 0, num(7)); e != 0 {
		t.Errorf("P11.5: %d", e)
	}
	l, e := h.Items(a)
	if e != 0 || !slices.Equal(l, []api.Object{nothing(), num(7)}) {
		t.Errorf("P11.5: %v, %d", l, e)
	}
	h.Set(a, 1, num(8))
	if x, _ := h.Get(p, 0); x != num(8) {
		t.Errorf("P11.5: %v", x)
	}
}

// TestResultsAreNew: what was returned stays as it is, and the heap stays as it is if it is changed.
func TestResultsAreNew(t *testing.T) {
	p := mixed(t)
	a, d, s := api.Object{Kind: 9, Len: 3}, api.Object{Kind: 10, N: 5}, api.Object{Kind: 8, N: 1, Len: 3}
	for _, o := range []api.Object{a, d, {Kind: 9, At: 1, Len: 1}, {Kind: 9, At: 3}} {
		first, _ := p.h.Items(o)
		second, _ := p.h.Items(o)
		before := slices.Clone(first)
		p.set(t, a, 1, num(999))
		p.set(t, d, 1, num(999))
		if !slices.Equal(first, before) {
			t.Errorf("P11.3: Items(%v) changed: %v", o, first)
		}
		for i := range first {
			first[i] = api.Object{Kind: 5, S: "changed"}
		}
		_ = append(first, num(5), num(6), num(7))
		if !slices.Equal(second, before) {
			t.Errorf("P11.3: two results share memory: %v", second)
		}
		p.m.check(t, p.h, "P11.3: Items")
		p.set(t, a, 1, num(1))
		p.set(t, d, 1, num(2))
	}
	b, _ := p.h.Bytes(s)
	p.set(t, s, 0, num('!'))
	p.put(t, s, 1, api.Object{Kind: 8, N: 10, Len: 2})
	if b != "wxy" {
		t.Errorf("P11.3: Bytes changed: %q", b)
	}
	p.m.check(t, p.h, "P11.3: Bytes")
}

// TestLock locks through an object and then tries to change the cell in every way.
func TestLock(t *testing.T) {
	for _, o := range append(near(), simple()...) {
		p := start()
		a, s, d := p.array(t, 3), p.string(t, "abc"), p.dict(t, 1)
		other, text := p.array(t, 3), p.string(t, "def")
		p.lock(t, o)
		p.m.check(t, p.h, "P11.3: Lock")
		for _, x := range []api.Object{a, s, d, other, text} {
			p.look(t, x)
			p.get(t, x, 0)
			for i := range 3 {
				p.set(t, x, i, num(i+50))
			}
			for at := range 4 {
				q := p.part(t, x, at, 1)
				p.set(t, q, 0, num(60))
				p.put(t, q, 0, other)
				p.put(t, x, at, p.part(t, other, 0, 0))
				p.put(t, x, at, p.part(t, text, 0, 1))
				p.put(t, x, 0, p.part(t, x, at, 1))
			}
		}
		p.m.check(t, p.h, "P11.3: a locked cell")
		p.lock(t, o)
		p.array(t, 1)
		p.m.check(t, p.h, "P11.3: locked twice")
	}
}

func TestCopy(t *testing.T) {
	p := mixed(t)
	q := &pair{p.h.Copy(), p.m.copy()}
	q.m.check(t, q.h, "P11.4: Copy")
	a, s, d := api.Object{Kind: 9, Len: 3}, api.Object{Kind: 8, N: 1, Len: 3}, api.Object{Kind: 10, N: 5}
	change(t, p, a, s, d, 1)
	q.m.check(t, q.h, "P11.5: the copy")
	change(t, q, a, s, d, 2)
	p.m.check(t, p.h, "P11.5: the original")
	q.m.check(t, q.h, "P11.5: the copy, changed")
	if h := New().Copy(); h == nil || h.Cells() != 0 || h.Used() != 0 {
		t.Errorf("P11.4: copy of an empty heap: %v", h)
	}
}

// change changes an array, a string and a dictionary, locks them and adds cells.
func change(t *testing.T, p *pair, a, s, d api.Object, by int) {
	t.Helper()
	for _, o := range []api.Object{a, s, d} {
		if p.set(t, o, 2, num(by)) != 0 {
			t.Errorf("P11.4: Set(%v)", o)
		}
	}
	for _, o := range []api.Object{a, s} {
		if p.put(t, o, by-1, p.part(t, o, 2, 1)) != 0 {
			t.Errorf("P11.4: Put(%v)", o)
		}
	}
	for _, o := range []api.Object{a, s, d} {
		p.lock(t, o)
	}
	p.array(t, by)
	p.string(t, strings.Repeat("c", by))
	p.dict(t, by)
	p.m.check(t, p.h, "P11.4: changed")
}

func TestBecome(t *testing.T) {
	a, s, d := api.Object{Kind: 9, Len: 3}, api.Object{Kind: 8, N: 1, Len: 3}, api.Object{Kind: 10, N: 5}
	for extra := -1; extra <= 1; extra++ {
		p, q := mixed(t), mixed(t)
		if extra < 0 {
			q = start()
		}
		for range extra * 5 {
			q.array(t, 2)
		}
		q.h.Become(p.h)
		q.m = p.m.copy()
		q.m.check(t, q.h, "P11.4: Become")
		change(t, p, a, s, d, 1)
		q.m.check(t, q.h, "P11.5: after a change of the other heap")
		change(t, q, a, s, d, 2)
		p.m.check(t, p.h, "P11.5: the other heap")
		p.h.Become(New())
		q.m.check(t, q.h, "P11.5: after the other heap became another one")
		(&model{}).check(t, p.h, "P11.4: empty")
	}
}

func TestBecomeItself(t *testing.T) {
	p := mixed(t)
	p.h.Become(nil)
	p.m.check(t, p.h, "P11.4: Become nil")
	p.h.Become(p.h)
	p.m.check(t, p.h, "P11.4: Become itself")
	change(t, p, api.Object{Kind: 9, Len: 3}, api.Object{Kind: 8, N: 1, Len: 3}, api.Object{Kind: 10, N: 5}, 1)
}

// TestBecomeFull: the limits count the cells that the heap has now.
func TestBecomeFull(t *testing.T) {
	full, few := start(), start()
	for range 2000 {
		full.array(t, 20)
	}
	full.array(t, 0)
	few.h.Become(full.h)
	few.m = full.m.copy()
	few.array(t, 0)
	few.m.check(t, few.h, "P11.4: a full heap")
	full.h.Become(New())
	full.m = &model{}
	full.array(t, 40000)
	full.array(t, 1)
	full.m.check(t, full.h, "P11.4: an empty heap")
}

// TestTwoHeaps: heaps that were made one by one share nothing.
func TestTwoHeaps(t *testing.T) {
	p, q := mixed(t), mixed(t)
	change(t, p, api.Object{Kind: 9, Len: 3}, api.Object{Kind: 8, N: 1, Len: 3}, api.Object{Kind: 10, N: 5}, 1)
	q.m.check(t, q.h, "P11.5: two heaps")
}

// TestRandom makes many calls, and looks at all of the heap now and then.
func TestRandom(t *testing.T) {
	r := rand.New(rand.NewSource(11))
	for range 60 {
		p := start()
		var kept []*pair
		for step := range 600 {
			p = randomCall(t, r, p, &kept)
			if step%20 == 0 {
				p.m.check(t, p.h, "P11.5: random calls")
			}
		}
		for _, q := range append(kept, p) {
			q.m.check(t, q.h, "P11.5: random calls, at the end")
		}
	}
}

func randomObject(r *rand.Rand, p *pair) api.Object {
	if len(p.m.cells) == 0 || r.Intn(8) == 0 {
		l := simple()
		return l[r.Intn(len(l))]
	}
	o := p.m.whole(r.Intn(len(p.m.cells)))
	if o.Kind != 10 && r.Intn(2) == 0 {
		o.At = r.Intn(o.Len + 1)
		o.Len = r.Intn(o.Len - o.At + 1)
	}
	o.Exec = r.Intn(3) == 0
	if r.Intn(10) == 0 {
		o.Len++
	}
	return o
}

func randomCall(t *testing.T, r *rand.Rand, p *pair, kept *[]*pair) *pair {
	o, x, i := randomObject(r, p), randomObject(r, p), r.Intn(8)-1
	switch r.Intn(14) {
	case 0:
		p.array(t, r.Intn(9)-1)
	case 1:
		p.string(t, "random"[:r.Intn(7)])
	case 2:
		p.dict(t, r.Intn(4)-1)
	case 3, 4, 5:
		p.set(t, o, i, x)
	case 6:
		p.set(t, o, i, num(r.Intn(260)-2))
	case 7, 8, 9:
		p.put(t, o, i, x)
	case 10:
		p.part(t, o, i, r.Intn(6)-1)
	case 11:
		p.look(t, o)
	case 12:
		if r.Intn(6) == 0 {
			p.lock(t, o)
		}
	case 13:
		return randomTurn(r, p, kept)
	}
	return p
}

// randomTurn goes on with a copy, or makes the heap what an earlier one is now.
func randomTurn(r *rand.Rand, p *pair, kept *[]*pair) *pair {
	if len(*kept) > 0 && r.Intn(2) == 0 {
		q := (*kept)[r.Intn(len(*kept))]
		p.h.Become(q.h)
		p.m = q.m.copy()
		return p
	}
	if len(*kept) < 5 {
		*kept = append(*kept, p)
		return &pair{p.h.Copy(), p.m.copy()}
	}
	return p
}
