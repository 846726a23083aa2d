package scope

import (
	"slices"
	"strings"
	"testing"

	"tympan/api"
	"tympan/dict"
	"tympan/heap"
)

func TestNewOfNil(t *testing.T) {
	if s, e := New(nil); s != nil || e != api.ErrArg {
		t.Errorf("P16.1: New(nil): %v, %d", s, e)
	}
}

// TestNew looks at all that New makes in an empty heap and in one with other cells.
func TestNew(t *testing.T) {
	for _, cells := range []int{0, 1, 4} {
		w := bare()
		for i := range cells {
			w.text("abcd"[:i])
		}
		used := w.h.Used()
		w.start(t)
		if n := w.h.Used() - used; n != 325+401 {
			t.Errorf("P16.1: %d items", n)
		}
		w.check(t, "P16.1: New")
		if d, e := w.s.Dicts(), w.s.Depth(); !slices.Equal(d, []api.Object{dictOf(cells), dictOf(cells + 1)}) || e != 2 {
			t.Errorf("P16.1: the stack is %v, %d", d, e)
		}
	}
}

// TestSystemPairs reads the system dictionary through layer 12.
func TestSystemPairs(t *testing.T) {
	h := heap.New()
	New(h)
	system := dictOf(0)
	if n, e := dict.Len(h, system); n != 162 || e != api.OK {
		t.Errorf("P16.1: %d pairs, %d", n, e)
	}
	if n, e := dict.Room(h, system); n != 162 || e != api.OK {
		t.Errorf("P16.1: room for %d, %d", n, e)
	}
	l, e := dict.Pairs(h, system)
	names := strings.Fields(operators)
	if e != api.OK || len(l) != 2*len(names) {
		t.Fatalf("P16.1: %d items, %d", len(l), e)
	}
	for i, s := range names {
		if k, v := l[2*i], l[2*i+1]; k != (api.Object{Kind: api.Name, S: s}) || v != (api.Object{Kind: api.Op, Exec: true, N: i + 1}) {
			t.Errorf("P16.1: pair %d: %v, %v, want %s", i, k, v, s)
		}
	}
}

// TestSystemStays: no call changes the system dictionary, wherever it is on the stack.
func TestSystemStays(t *testing.T) {
	keys := []api.Object{name("pop"), name("add"), name("setscreen"), run(name("[")), name("new"), num(1), {Kind: api.Bool}}
	for _, l := range [][]int{{system, user, system}, {system, system}, {user, system}, {open, user, system}} {
		w := mixed(t)
		var ds []api.Object
		for _, n := range l {
			ds = append(ds, dictOf(n))
		}
		w.become(t, ds)
		for _, k := range keys {
			for _, v := range []api.Object{num(1), operator(1), nothing()} {
				if e := w.s.Def(k, v); e != api.ErrArg {
					t.Errorf("P16.1: Def(%v): %d", k, e)
				}
				if e := w.s.Store(k, v); e != api.ErrArg {
					t.Errorf("P16.1: Store(%v) on %v: %d", k, l, e)
				}
				if e := dict.Set(w.h, dictOf(system), k, v); e != api.ErrArg {
					t.Errorf("P16.1: Set(%v): %d", k, e)
				}
			}
			if e, want := dict.Drop(w.h, dictOf(system), k), w.books[system].index(k) >= 0; (e == api.ErrArg) != want {
				t.Errorf("P16.1: Drop(%v): %d", k, e)
			}
		}
		w.check(t, "P16.1: the system dictionary")
	}
}

// TestUserRoom: the 200th key is the last one that fits into the user dictionary.
func TestUserRoom(t *testing.T) {
	for _, store := range []bool{false, true} {
		w := mixed(t)
		call := w.def
		if store {
			call = w.store
		}
		if n, e := dict.Room(w.h, dictOf(user)); n != 200 || e != api.OK {
			t.Errorf("P16.1: room for %d, %d", n, e)
		}
		for i := range 200 {
			if e := call(t, num(i), num(1000+i)); e != api.OK {
				t.Fatalf("P16.1: key %d: %d", i, e)
			}
		}
		for _, k := range []api.Object{num(200), name("new"), name("add"), nothing()} {
			if e := call(t, k, num(1)); e != api.ErrFull && k.Kind != api.Null {
				t.Errorf("P16.1: key 201, %v: %d", k, e)
			}
		}
		w.check(t, "P16.1: the user dictionary is full")
		for _, i := range []int{0, 100, 199} {
			if e := call(t, num(i), num(-i)); e != api.OK {
				t.Errorf("P16.3: key %d again: %d", i, e)
			}
		}
		w.check(t, "P16.3: keys set again")
	}
}

// filled returns a heap with so many cells, which have so many items and bytes in all, of all kinds, of which some are locked.
func filled(t *testing.T, cells, items int) *world {
	t.Helper()
	w := bare()
	first := items
	if cells > 0 {
		w.lock(w.dict(t, 2, pair{name("a"), num(1)}))
		first -= 5
	}
	for i := 1; i < cells-1; i++ {
		switch n := min(i%3, first); {
		case i%2 == 0:
			w.list(n)
			first -= n
		default:
			w.text("xyz"[:n])
			first -= n
		}
	}
	if cells > 1 {
		w.list(first)
	}
	if w.h.Cells() != cells || w.h.Used() != items {
		t.Fatalf("the heap has %d cells and %d items, want %d and %d", w.h.Cells(), w.h.Used(), cells, items)
	}
	return w
}

// TestNewAtLimits: a heap that has no room for both dictionaries stays as it is, and keeps what room it has.
func TestNewAtLimits(t *testing.T) {
	for _, c := range []struct {
		cells, items int
		want         api.Errno
	}{
		{1998, 3000, api.OK},
		{1999, 3000, api.ErrLimit},
		{2000, 3000, api.ErrLimit},
		{2, 40000 - 726, api.OK},
		{2, 40000 - 725, api.ErrLimit},
		{3, 40000 - 401, api.ErrLimit},
		{3, 40000 - 400, api.ErrLimit},
		{4, 40000 - 326, api.ErrLimit},
		{4, 40000 - 325, api.ErrLimit},
		{5, 40000 - 324, api.ErrLimit},
		{2, 40000, api.ErrLimit},
		{1998, 40000 - 726, api.OK},
		{1998, 40000 - 725, api.ErrLimit},
		{1999, 40000 - 725, api.ErrLimit},
		{2000, 40000, api.ErrLimit},
	} {
		w := filled(t, c.cells, c.items)
		s, e := New(w.h)
		if e != c.want || (s != nil) != (e == api.OK) {
			t.Errorf("P16.1: %d cells, %d items: %v, %d, want %d", c.cells, c.items, s, e, c.want)
		}
		if e == api.OK {
			w.books[c.cells], w.books[c.cells+1] = systemBook(), &book{room: 200}
			c.cells, c.items = c.cells+2, c.items+726
		}
		w.checkHeap(t, "P16.1: at the limits")
		if w.h.Cells() != c.cells || w.h.Used() != c.items {
			t.Errorf("P16.1: %d cells, %d items, want %d and %d", w.h.Cells(), w.h.Used(), c.cells, c.items)
		}
		if c.cells < 2000 {
			if o, e := w.h.Array(40001 - c.items); e != api.ErrLimit {
				t.Errorf("P16.1: an item too many: %v, %d", o, e)
			}
			if o, e := w.h.Array(40000 - c.items); o.N != c.cells || e != api.OK {
				t.Errorf("P16.1: as many items as fit: %v, %d", o, e)
			}
		}
	}
}

// TestNewTwice: each Scope has dictionaries and a stack of its own, in one heap and in two.
func TestNewTwice(t *testing.T) {
	w := bare()
	w.start(t)
	first, stack := w.s, w.stack
	w.start(t)
	w.def(t, name("add"), num(1))
	w.begin(t, stack[1])
	w.check(t, "P16.1: the second one")
	w.s, w.stack = first, stack
	w.check(t, "P16.1: the first one")
	if v, d, e := w.find(t, name("add")); v != operator(11) || d != dictOf(0) || e != api.OK {
		t.Errorf("P16.3: %v, %v, %d", v, d, e)
	}
	other := bare()
	other.start(t)
	w.def(t, name("sub"), num(2))
	other.check(t, "P16.1: another heap")
	w.check(t, "P16.1: one heap")
}

// TestNewMany: a heap has room for as many Scopes as its items allow.
func TestNewMany(t *testing.T) {
	w := bare()
	for range 40000 / 726 {
		w.start(t)
	}
	if s, e := New(w.h); s != nil || e != api.ErrLimit {
		t.Errorf("P16.1: one too many: %v, %d", s, e)
	}
	w.check(t, "P16.1: many")
}
