package heap

import (
	"fmt"
	"math"
	"slices"
	"strings"
	"testing"

	"tympan/api"
)

// pair is a heap and its model; both are changed by the same calls.
type pair struct {
	h *Heap
	m *model
}

func start() *pair { return &pair{New(), &model{}} }

// agree compares a result of the heap with that of the model.
func agree[T comparable](t *testing.T, got T, e api.Errno, want T, f api.Errno, what string, arguments ...any) {
	t.Helper()
	if got != want || e != f {
		t.Fatalf("%s: %v, %d, want %v, %d", fmt.Sprintf(what, arguments...), got, e, want, f)
	}
}

func (p *pair) array(t *testing.T, n int) api.Object {
	t.Helper()
	o, e := p.h.Array(n)
	want, f := p.m.array(n)
	agree(t, o, e, want, f, "P11.1: Array")
	return o
}

func (p *pair) string(t *testing.T, b string) api.Object {
	t.Helper()
	o, e := p.h.String(b)
	want, f := p.m.string(b)
	agree(t, o, e, want, f, "P11.1: String")
	return o
}

func (p *pair) dict(t *testing.T, n int) api.Object {
	t.Helper()
	o, e := p.h.Dict(n)
	want, f := p.m.dict(n)
	agree(t, o, e, want, f, "P11.1: Dict")
	return o
}

// extremes are numbers that no index and no size reaches.
func extremes() []int {
	return []int{math.MinInt, math.MinInt + 1, -1 << 32, -40001, -40000, -2, -1, 40001, 40002, 1 << 31, 1 << 32, 1<<32 + 1, 1 << 62, math.MaxInt - 1, math.MaxInt}
}

func TestArray(t *testing.T) {
	for _, n := range append(extremes(), 0, 1, 2, 39999, 40000) {
		p := start()
		o := p.array(t, n)
		p.m.check(t, p.h, "P11.1: Array")
		if n < 0 || n > 40000 {
			continue
		}
		if o != (api.Object{Kind: 9, Len: n}) {
			t.Errorf("P11.1: Array(%d): %v", n, o)
		}
		l, e := p.h.Items(o)
		if e != 0 || len(l) != n || slices.ContainsFunc(l, func(x api.Object) bool { return x != nothing() }) {
			t.Errorf("P11.1: Array(%d): %d items, %d", n, len(l), e)
		}
	}
}

func TestString(t *testing.T) {
	all := make([]byte, 256)
	for i := range all {
		all[i] = byte(i)
	}
	for _, b := range []string{"", "a", "\x00", "\xff\x00\x80", "é", string(all), strings.Repeat("x", 39999), strings.Repeat("y", 40000), strings.Repeat("z", 40001), strings.Repeat("z", 100000)} {
		p := start()
		o := p.string(t, b)
		p.m.check(t, p.h, "P11.1: String")
		if len(b) > 40000 {
			continue
		}
		got, e := p.h.Bytes(o)
		if o != (api.Object{Kind: 8, Len: len(b)}) || got != b || e != 0 {
			t.Errorf("P11.1: String of %d bytes: %v, %d, %d bytes", len(b), o, e, len(got))
		}
	}
}

func TestDict(t *testing.T) {
	for _, n := range append(extremes(), 0, 1, 2, 999, 1000, 1001, 20000) {
		p := start()
		o := p.dict(t, n)
		p.m.check(t, p.h, "P11.1: Dict")
		if n < 0 || n > 1000 {
			continue
		}
		size, e := p.h.Size(o)
		first, f := p.h.Get(o, 0)
		if o != (api.Object{Kind: 10}) || size != 2*n+1 || e != 0 || f != 0 || first != num(0) {
			t.Errorf("P11.1: Dict(%d): %v, %d, %v", n, o, size, first)
		}
	}
}

func TestNumbers(t *testing.T) {
	p := start()
	for i := range 30 {
		for k, o := range []api.Object{p.array(t, i), p.string(t, strings.Repeat("s", i)), p.dict(t, i)} {
			if o.N != 3*i+k {
				t.Fatalf("P11.1: cell %d: %v", 3*i+k, o)
			}
		}
	}
	p.m.check(t, p.h, "P11.1: numbers")
}

// tryAll calls every way to create a cell, of little and of much.
func (p *pair) tryAll(t *testing.T) {
	t.Helper()
	for _, n := range []int{-1, 40001, 1001, 40000, 1000, 2, 1, 0} {
		p.array(t, n)
		p.dict(t, n)
		p.string(t, strings.Repeat("s", max(n, 0)))
	}
}

func TestManyCells(t *testing.T) {
	for kind := range 4 {
		p := start()
		for i := range 2000 {
			switch (kind + i/1999) % 4 {
			case 0:
				p.array(t, i%2)
			case 1:
				p.string(t, "ab"[:i%3])
			case 2:
				p.dict(t, i%3)
			case 3:
				p.array(t, 0)
			}
		}
		if p.h.Cells() != 2000 {
			t.Fatalf("P11.1: %d cells", p.h.Cells())
		}
		p.tryAll(t)
		if p.h.Cells() != 2000 {
			t.Errorf("P11.1: %d cells", p.h.Cells())
		}
		p.m.check(t, p.h, "P11.1: MaxCells cells")
	}
}

// TestManyItems leaves room for rest items, after cells of all kinds.
func TestManyItems(t *testing.T) {
	for rest := range 4 {
		for kind := range 3 {
			for size := range 6 {
				p := start()
				p.dict(t, 1000)
				p.string(t, strings.Repeat("s", 20000))
				p.array(t, 40000-2001-20000-rest)
				switch kind {
				case 0:
					p.array(t, size)
				case 1:
					p.string(t, strings.Repeat("x", size))
				case 2:
					p.dict(t, size)
				}
				if kind < 2 && p.h.Used() == 40000-rest+size != (size <= rest) {
					t.Errorf("P11.1: %d of %d: %d used", size, rest, p.h.Used())
				}
				if kind == 2 && p.h.Used() == 40000-rest+2*size+1 != (2*size+1 <= rest) {
					t.Errorf("P11.1: %d pairs in %d: %d used", size, rest, p.h.Used())
				}
				p.m.check(t, p.h, "P11.1: MaxItems items")
			}
		}
	}
}

// TestFull has no room for an item, but for empty cells: an Array and two Strings of tryAll.
func TestFull(t *testing.T) {
	p := start()
	p.array(t, 40000)
	p.tryAll(t)
	if p.h.Used() != 40000 || p.h.Cells() != 4 {
		t.Errorf("P11.1: %d cells, %d used", p.h.Cells(), p.h.Used())
	}
	p.m.check(t, p.h, "P11.1: full")
}

// TestFirstError: a number that is out of range precedes the limits of the heap.
func TestFirstError(t *testing.T) {
	h := New()
	for range 2000 {
		h.Array(20)
	}
	for _, n := range []int{-1, math.MinInt} {
		if _, e := h.Array(n); e != 2 {
			t.Errorf("P11.1: Array(%d): %d", n, e)
		}
	}
	for _, n := range []int{-1, 1001, 40001, math.MinInt, math.MaxInt} {
		if _, e := h.Dict(n); e != 2 {
			t.Errorf("P11.1: Dict(%d): %d", n, e)
		}
	}
	if _, e := h.Array(40001); e != 5 {
		t.Errorf("P11.1: Array(40001): %d", e)
	}
}

// TestZero: a Heap that New did not return has no cells.
func TestZero(t *testing.T) {
	p := &pair{&Heap{}, &model{}}
	p.m.check(t, p.h, "P11.4: zero")
	p.array(t, 1)
	p.m.check(t, p.h, "P11.1: zero")
	if h := New(); h == nil || h.Cells() != 0 || h.Used() != 0 {
		t.Errorf("P11.4: New: %v", h)
	}
}

func TestNil(t *testing.T) {
	var h *Heap
	objects := []api.Object{{}, nothing(), num(1), {Kind: 8}, {Kind: 9}, {Kind: 10}, {Kind: 9, N: -1}, {Kind: 12}}
	for _, o := range objects {
		for _, i := range []int{-1, 0, 1} {
			x, e1 := h.Get(o, i)
			q, e2 := h.Part(o, i, 0)
			if x != (api.Object{}) || q != (api.Object{}) || e1 != 1 || e2 != 1 || h.Set(o, i, num(1)) != 1 || h.Put(o, i, o) != 1 {
				t.Errorf("nil: %v, %d: %d, %d", o, i, e1, e2)
			}
		}
		n, e1 := h.Size(o)
		l, e2 := h.Items(o)
		b, e3 := h.Bytes(o)
		if n != 0 || len(l) != 0 || b != "" || e1 != 1 || e2 != 1 || e3 != 1 || h.Lock(o) != 1 || h.May(o) {
			t.Errorf("nil: %v: %d, %d, %d", o, e1, e2, e3)
		}
	}
	for _, n := range []int{-1, 0, 1, 1001, 40001} {
		a, e1 := h.Array(n)
		d, e2 := h.Dict(n)
		s, e3 := h.String(strings.Repeat("s", max(0, n)))
		if a != (api.Object{}) || d != (api.Object{}) || s != (api.Object{}) || e1 != 1 || e2 != 1 || e3 != 1 {
			t.Errorf("nil: %d: %d, %d, %d", n, e1, e2, e3)
		}
	}
	h.Become(New())
	h.Become(nil)
	if h.Cells() != 0 || h.Used() != 0 || h.Copy() != nil {
		t.Errorf("nil: %d, %d, %v", h.Cells(), h.Used(), h.Copy())
	}
}
