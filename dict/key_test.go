package dict

import (
	"math"
	"strings"
	"testing"

	"tympan/api"
	"tympan/heap"
	"tympan/obj"
)

// TestNew compares New with the Dict of a heap that is in the same state.
func TestNew(t *testing.T) {
	for _, n := range append(extremes(), -1001, -2, -1, 0, 1, 2, 3, 200, 999, 1000, 1001, 1002, 20000, 40001) {
		h, g := heap.New(), heap.New()
		d, e := New(h, n)
		want, f := g.Dict(n)
		if d != want || e != f || h.Cells() != g.Cells() || h.Used() != g.Used() {
			t.Errorf("P12.1: New(%d): %v, %d, want %v, %d", n, d, e, want, f)
		}
		if n < 0 || n > 1000 {
			if d != (api.Object{}) || e != api.ErrRange || h.Cells() != 0 {
				t.Errorf("P12.1: New(%d): %v, %d", n, d, e)
			}
			continue
		}
		count, _ := Len(h, d)
		room, _ := Room(h, d)
		l, f := Pairs(h, d)
		if d != dictOf(0) || e != api.OK || h.Used() != 2*n+1 || count != 0 || room != n || len(l) != 0 || f != api.OK {
			t.Errorf("P12.1: New(%d): %v, %d: %d of %d pairs, %v, %d", n, d, e, count, room, l, f)
		}
	}
}

// TestNewLimits has a heap with too few items left, and one with all of its cells.
func TestNewLimits(t *testing.T) {
	for n := range 4 {
		for rest := range 8 {
			h := heap.New()
			h.Array(40000 - rest)
			d, e := New(h, n)
			if 2*n+1 <= rest {
				if d != dictOf(1) || e != api.OK {
					t.Errorf("P12.1: New(%d) in %d items: %v, %d", n, rest, d, e)
				}
			} else if d != (api.Object{}) || e != api.ErrLimit || h.Cells() != 1 || h.Used() != 40000-rest {
				t.Errorf("P12.1: New(%d) in %d items: %v, %d", n, rest, d, e)
			}
		}
	}
	h := heap.New()
	for i := range 2000 {
		if d, e := New(h, i%3); d != dictOf(i) || e != api.OK {
			t.Fatalf("P12.1: New in %d cells: %v, %d", i, d, e)
		}
	}
	for _, n := range []int{-1, 0, 1, 1000, 1001, math.MinInt, math.MaxInt} {
		want := api.ErrLimit
		if n < 0 || n > 1000 {
			want = api.ErrRange
		}
		if d, e := New(h, n); d != (api.Object{}) || e != want || h.Cells() != 2000 {
			t.Errorf("P12.1: New(%d) in 2000 cells: %v, %d", n, d, e)
		}
	}
}

// TestNil calls everything without a heap, with arguments that are right, and wrong in other ways.
func TestNil(t *testing.T) {
	for _, n := range []int{math.MinInt, -1, 0, 1, 1000, 1001, math.MaxInt} {
		if d, e := New(nil, n); d != (api.Object{}) || e != api.ErrArg {
			t.Errorf("P12.1: New(nil, %d): %v, %d", n, d, e)
		}
	}
	for _, d := range []api.Object{dictOf(0), {}, num(1), {Kind: api.Dict, N: -1}, nothing(), {Kind: api.Array}} {
		count, e1 := Len(nil, d)
		room, e2 := Room(nil, d)
		l, e3 := Pairs(nil, d)
		if count != 0 || room != 0 || len(l) != 0 || e1 != api.ErrArg || e2 != api.ErrArg || e3 != api.ErrArg {
			t.Errorf("P12.3: a nil heap, %v: %d, %d, %v: %d, %d, %d", d, count, room, l, e1, e2, e3)
		}
		for _, k := range objects() {
			v, e := Get(nil, d, k)
			if v != (api.Object{}) || e != api.ErrArg || Set(nil, d, k, num(1)) != api.ErrArg || Drop(nil, d, k) != api.ErrArg {
				t.Fatalf("P12.2: a nil heap, %v, %v: %v, %d", d, k, v, e)
			}
		}
	}
	for _, o := range objects() {
		if k, e := Key(nil, o); k != (api.Object{}) || e != api.ErrArg {
			t.Errorf("P12.1: Key(nil, %v): %v, %d", o, k, e)
		}
	}
}

func TestKey(t *testing.T) {
	w := mixed(t)
	found := map[api.Errno]int{}
	for _, o := range objects() {
		_, e := w.key(t, o)
		found[e]++
	}
	w.check(t, "P12.1: Key")
	for _, e := range []api.Errno{api.OK, api.ErrArg, api.ErrType, api.ErrLimit} {
		if found[e] == 0 {
			t.Errorf("P12.1: no key with %d", e)
		}
	}
}

// TestKeyRows has the keys written out.
func TestKeyRows(t *testing.T) {
	w := mixed(t)
	long, none := strings.Repeat("n", 100), api.Object{}
	for i, c := range []struct {
		o, want api.Object
		e       api.Errno
	}{
		{nothing(), none, api.ErrType},
		{run(nothing()), none, api.ErrType},
		{api.Object{Kind: api.Null, N: 1}, none, api.ErrType},
		{api.Object{Kind: api.Null, At: -1}, none, api.ErrType},
		{api.Object{Kind: api.Null, Len: 1}, none, api.ErrType},
		{api.Object{Kind: api.Null, S: "a"}, none, api.ErrType},
		{api.Object{Kind: api.Bool, N: 1}, api.Object{Kind: api.Bool, N: 1}, api.OK},
		{api.Object{Kind: api.Bool, N: 2}, none, api.ErrArg},
		{num(-7), num(-7), api.OK},
		{run(num(7)), num(7), api.OK},
		{num(1<<31 - 1), num(1<<31 - 1), api.OK},
		{num(1 << 31), none, api.ErrArg},
		{fixed(65536), fixed(65536), api.OK},
		{run(fixed(1)), fixed(1), api.OK},
		{fixed(1 << 30), none, api.ErrArg},
		{name("a"), name("a"), api.OK},
		{name(""), name(""), api.OK},
		{run(name("a")), name("a"), api.OK},
		{name(long), name(long), api.OK},
		{name(long + "n"), none, api.ErrArg},
		{run(api.Object{Kind: api.Mark}), api.Object{Kind: api.Mark}, api.OK},
		{run(api.Object{Kind: api.Op, N: 200}), api.Object{Kind: api.Op, N: 200}, api.OK},
		{api.Object{Kind: api.Op}, none, api.ErrArg},
		{api.Object{Kind: api.Save, N: 1}, api.Object{Kind: api.Save, N: 1}, api.OK},
		{run(api.Object{Kind: api.Array, At: 1, Len: 2}), api.Object{Kind: api.Array, At: 1, Len: 2}, api.OK},
		{api.Object{Kind: api.Array, At: 1, Len: 3}, none, api.ErrArg},
		{api.Object{Kind: api.Array, N: 11}, none, api.ErrArg},
		{run(dictOf(5)), dictOf(5), api.OK},
		{dictOf(0), none, api.ErrArg},
		{dictOf(11), none, api.ErrArg},
		{api.Object{Kind: api.Dict, N: 5, Len: 1}, none, api.ErrArg},
		{api.Object{Kind: api.String, N: 1}, name(""), api.OK},
		{api.Object{Kind: api.String, N: 2, Len: 3}, name("abc"), api.OK},
		{run(api.Object{Kind: api.String, N: 2, Len: 3}), name("abc"), api.OK},
		{api.Object{Kind: api.String, N: 2, At: 1, Len: 1}, name("b"), api.OK},
		{api.Object{Kind: api.String, N: 2, At: 3}, name(""), api.OK},
		{api.Object{Kind: api.String, N: 2, At: 3, Len: 1}, none, api.ErrArg},
		{api.Object{Kind: api.String, N: 3, Len: 100}, name(long), api.OK},
		{api.Object{Kind: api.String, N: 4, Len: 101}, none, api.ErrLimit},
		{run(api.Object{Kind: api.String, N: 4, Len: 101}), none, api.ErrLimit},
		{api.Object{Kind: api.String, N: 4, At: 1, Len: 100}, name(long), api.OK},
		{api.Object{Kind: api.String, N: 4, At: 1, Len: 101}, none, api.ErrArg},
		{api.Object{Kind: api.String, N: 0}, none, api.ErrArg},
		{none, none, api.ErrArg},
		{api.Object{Kind: 12}, none, api.ErrArg},
		{api.Object{Kind: -1}, none, api.ErrArg},
		{api.Object{Kind: math.MinInt, N: math.MinInt, At: math.MinInt, Len: math.MinInt}, none, api.ErrArg},
		{api.Object{Kind: math.MaxInt, N: math.MaxInt, At: math.MaxInt, Len: math.MaxInt}, none, api.ErrArg},
	} {
		if k, e := Key(w.h, c.o); k != c.want || e != c.e {
			t.Errorf("P12.1: row %d: Key(%v): %v, %d, want %v, %d", i, c.o, k, e, c.want, c.e)
		}
	}
}

// TestKeyBytes: the Name has all bytes of the String as they were.
func TestKeyBytes(t *testing.T) {
	all := make([]byte, 256)
	for i := range all {
		all[i] = byte(i)
	}
	h := heap.New()
	s, _ := h.String(string(all))
	for at := range 257 {
		for _, n := range []int{0, 1, 99, 100, 101, 102} {
			o := api.Object{Kind: api.String, N: s.N, At: at, Len: n}
			k, e := Key(h, o)
			switch {
			case at+n > 256:
				if k != (api.Object{}) || e != api.ErrArg {
					t.Errorf("P12.1: %d bytes from %d: %v, %d", n, at, k, e)
				}
			case n > 100:
				if k != (api.Object{}) || e != api.ErrLimit {
					t.Errorf("P12.1: %d bytes from %d: %v, %d", n, at, k, e)
				}
			case k != name(string(all[at:at+n])) || e != api.OK:
				t.Errorf("P12.1: %d bytes from %d: %v, %d", n, at, k, e)
			}
		}
	}
}

// TestKeyIsNoString: a key does not change with the String that it was.
func TestKeyIsNoString(t *testing.T) {
	h := heap.New()
	s, _ := h.String("ab")
	d, _ := New(h, 2)
	k, _ := Key(h, s)
	Set(h, d, s, num(1))
	h.Set(s, 0, num('x'))
	if k != name("ab") {
		t.Errorf("P12.1: %v", k)
	}
	if v, e := Get(h, d, name("ab")); v != num(1) || e != api.OK {
		t.Errorf("P12.2: %v, %d", v, e)
	}
	if v, e := Get(h, d, s); v != (api.Object{}) || e != api.ErrName {
		t.Errorf("P12.2: %v, %d", v, e)
	}
	if e := Set(h, d, s, num(2)); e != api.OK {
		t.Errorf("P12.2: %d", e)
	}
	if n, _ := Len(h, d); n != 2 {
		t.Errorf("P12.3: %d pairs", n)
	}
}

// numbers are next to those that are an Int and a Fix at once, and to the bounds of both.
func numbers() []api.Object {
	var l []api.Object
	for _, n := range []int{-1<<31 + 1, -65537, -65536, -65535, -16385, -16384, -16383, -2, -1, 0, 1, 2, 3, 16382, 16383, 16384, 16385, 65535, 65536, 65537, 131072, 1 << 30, 16383 << 16, 1<<31 - 1} {
		l = append(l, num(n))
	}
	for _, n := range []int{-1<<30 + 1, -16383<<16 - 1, -16383 << 16, -16383<<16 + 1, -131072, -65537, -65536, -65535, -2, -1, 0, 1, 2, 3, 16383, 16384, 65535, 65536, 65537, 131071, 131072, 131073, 196608, 16382 << 16, 16383<<16 - 1, 16383 << 16, 16383<<16 + 1, 1<<30 - 1} {
		l = append(l, fixed(n))
	}
	return l
}

// TestEqual sets a key and looks for another one: it is there if obj's Same says so.
func TestEqual(t *testing.T) {
	w := mixed(t)
	d := w.dict(t, 1)
	keys := append(valid(w), numbers()...)
	keys = append(keys, w.text("1"), w.text("true"), w.text("a"), w.text("\x00\xff"), name("1"), name("true"), name("A"), name("ab"), name("abc\x00"))
	same := 0
	for _, a := range keys {
		k, e := w.key(t, a)
		if e != api.OK {
			continue
		}
		w.set(t, d, a, num(5))
		for _, b := range keys {
			l, f := w.key(t, b)
			if f != api.OK {
				continue
			}
			_, e := w.get(t, d, b)
			if obj.Same(k, l) != (e == api.OK) {
				t.Fatalf("P12.1: %v is set, %v: %d", a, b, e)
			}
			if e == api.OK && k != l {
				same++
			}
		}
		w.drop(t, d, a)
	}
	if same < 10 {
		t.Errorf("P12.1: only %d keys are the same without being equal", same)
	}
	w.check(t, "P12.1: equal keys")
}

func TestEqualRows(t *testing.T) {
	w := mixed(t)
	for i, c := range []struct {
		a, b api.Object
		same bool
	}{
		{name("abc"), api.Object{Kind: api.String, N: 2, Len: 3}, true},
		{api.Object{Kind: api.String, N: 2, Len: 3}, run(name("abc")), true},
		{name("ab"), api.Object{Kind: api.String, N: 2, Len: 3}, false},
		{name(""), api.Object{Kind: api.String, N: 1}, true},
		{api.Object{Kind: api.String, N: 2, At: 1}, api.Object{Kind: api.String, N: 3, At: 9}, true},
		{num(1), fixed(65536), true},
		{fixed(65536), num(1), true},
		{num(1), fixed(65535), false},
		{num(1), fixed(65537), false},
		{num(1), fixed(1), false},
		{num(65536), fixed(65536), false},
		{num(0), fixed(0), true},
		{num(-16383), fixed(-16383 << 16), true},
		{num(16383), fixed(16383 << 16), true},
		{num(16384), fixed(1<<30 - 1), false},
		{num(16384), num(16384), true},
		{num(16384), num(16385), false},
		{num(1 << 30), fixed(1<<30 - 1), false},
		{num(1), name("1"), false},
		{num(1), api.Object{Kind: api.Bool, N: 1}, false},
		{num(1), api.Object{Kind: api.Save, N: 1}, false},
		{num(1), api.Object{Kind: api.Op, N: 1}, false},
		{num(0), api.Object{Kind: api.Mark}, false},
		{num(0), name(""), false},
		{api.Object{Kind: api.Bool}, api.Object{Kind: api.Bool, N: 1}, false},
		{api.Object{Kind: api.Mark}, run(api.Object{Kind: api.Mark}), true},
		{name("a"), run(name("a")), true},
		{name("a"), name("A"), false},
		{api.Object{Kind: api.Op, N: 3}, run(api.Object{Kind: api.Op, N: 3}), true},
		{api.Object{Kind: api.Op, N: 3}, api.Object{Kind: api.Op, N: 4}, false},
		{api.Object{Kind: api.Array, Len: 2}, run(api.Object{Kind: api.Array, Len: 2}), true},
		{api.Object{Kind: api.Array, Len: 2}, api.Object{Kind: api.Array, Len: 1}, false},
		{api.Object{Kind: api.Array, Len: 2}, api.Object{Kind: api.Array, At: 1, Len: 2}, false},
		{api.Object{Kind: api.Array, At: 1}, api.Object{Kind: api.Array, At: 2}, false},
		{dictOf(5), run(dictOf(5)), true},
		{dictOf(5), dictOf(6), false},
		{dictOf(5), num(5), false},
	} {
		v := w.copy()
		d := v.dict(t, 1)
		if e := Set(v.h, d, c.a, num(1)); e != api.OK {
			t.Errorf("P12.2: row %d: %d", i, e)
		}
		want := api.ErrFull
		if c.same {
			want = api.OK
		}
		if e := Set(v.h, d, c.b, num(2)); e != want {
			t.Errorf("P12.1: row %d: %v and %v: %d", i, c.a, c.b, e)
		}
		stored, _ := Key(v.h, c.a)
		l, _ := Pairs(v.h, d)
		if len(l) != 2 || l[0] != stored || (l[1] == num(2)) != c.same {
			t.Errorf("P12.2: row %d: %v", i, l)
		}
	}
}
