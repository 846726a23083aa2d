package dict

import (
	"math"
	"math/rand"
	"slices"
	"strings"
	"testing"

	"tympan/api"
)

// TestOfEveryKind calls everything with every object as the dictionary.
func TestOfEveryKind(t *testing.T) {
	w := mixed(t)
	keys := []api.Object{name("abc"), num(99), nothing(), {}, {Kind: api.String, N: 4, Len: 101}, {Kind: api.Array, N: 99}}
	for _, d := range objects() {
		if w.look(t, d) == api.OK {
			continue
		}
		for _, k := range keys {
			w.get(t, d, k)
			w.set(t, d, k, num(1))
			w.set(t, d, k, api.Object{})
			w.drop(t, d, k)
		}
	}
	w.check(t, "P12.2: no dictionaries")
}

// TestKeysOfEveryKind calls everything with every object as the key, of every dictionary.
func TestKeysOfEveryKind(t *testing.T) {
	w := mixed(t)
	for d := 5; d <= 10; d++ {
		for i, k := range objects() {
			v, e := w.get(t, run(dictOf(d)), k)
			w.set(t, dictOf(d), k, api.Object{})
			if e == api.OK {
				w.set(t, dictOf(d), k, v)
				continue
			}
			w.drop(t, dictOf(d), k)
			if w.set(t, run(dictOf(d)), k, num(i)) == api.OK {
				w.get(t, dictOf(d), k)
				w.drop(t, dictOf(d), k)
			}
		}
		w.check(t, "P12.2: keys")
	}
}

// TestValuesOfEveryKind sets every object as the value of a key that exists and of one that doesn't.
func TestValuesOfEveryKind(t *testing.T) {
	w := mixed(t)
	for d := 5; d <= 10; d++ {
		for _, v := range objects() {
			w.set(t, dictOf(d), name("abc"), v)
			w.get(t, dictOf(d), name("abc"))
			w.set(t, dictOf(d), name("new"), v)
			w.get(t, dictOf(d), name("new"))
			w.drop(t, dictOf(d), name("new"))
		}
		w.check(t, "P12.2: values")
	}
}

// TestErrors has every error alone, and two at once.
func TestErrors(t *testing.T) {
	open, full, none, locked, both, blank := dictOf(5), dictOf(6), dictOf(7), dictOf(8), dictOf(9), dictOf(10)
	long, bad, far := api.Object{Kind: api.String, N: 4, Len: 101}, api.Object{}, api.Object{Kind: api.Array, N: 99}
	is, isn := name("abc"), name("new")
	for i, c := range []struct {
		d, k, v        api.Object
		get, set, drop api.Errno
	}{
		{num(1), is, num(1), api.ErrType, api.ErrType, api.ErrType},
		{bad, is, num(1), api.ErrType, api.ErrType, api.ErrType},
		{nothing(), nothing(), bad, api.ErrType, api.ErrType, api.ErrType},
		{num(1), bad, bad, api.ErrType, api.ErrType, api.ErrType},
		{num(1), long, bad, api.ErrType, api.ErrType, api.ErrType},
		{far, far, far, api.ErrType, api.ErrType, api.ErrType},
		{api.Object{Kind: api.Array, Len: 3}, is, num(1), api.ErrType, api.ErrType, api.ErrType},
		{api.Object{Kind: api.String, N: 2, Len: 3}, nothing(), num(1), api.ErrType, api.ErrType, api.ErrType},
		{api.Object{Kind: 12, N: 5}, is, num(1), api.ErrType, api.ErrType, api.ErrType},
		{dictOf(11), is, num(1), api.ErrArg, api.ErrArg, api.ErrArg},
		{dictOf(11), nothing(), bad, api.ErrArg, api.ErrArg, api.ErrArg},
		{dictOf(0), long, num(1), api.ErrArg, api.ErrArg, api.ErrArg},
		{dictOf(-1), nothing(), num(1), api.ErrArg, api.ErrArg, api.ErrArg},
		{dictOf(math.MinInt), nothing(), num(1), api.ErrArg, api.ErrArg, api.ErrArg},
		{dictOf(math.MaxInt), long, num(1), api.ErrArg, api.ErrArg, api.ErrArg},
		{api.Object{Kind: api.Dict, N: 5, At: 1}, nothing(), num(1), api.ErrArg, api.ErrArg, api.ErrArg},
		{api.Object{Kind: api.Dict, N: 5, Len: -1}, nothing(), num(1), api.ErrArg, api.ErrArg, api.ErrArg},
		{api.Object{Kind: api.Dict, N: 5, S: "s"}, nothing(), num(1), api.ErrArg, api.ErrArg, api.ErrArg},
		{open, nothing(), num(1), api.ErrType, api.ErrType, api.ErrType},
		{open, nothing(), bad, api.ErrType, api.ErrType, api.ErrType},
		{both, nothing(), num(1), api.ErrType, api.ErrType, api.ErrType},
		{none, nothing(), num(1), api.ErrType, api.ErrType, api.ErrType},
		{open, api.Object{Kind: api.Null, S: "x"}, bad, api.ErrType, api.ErrType, api.ErrType},
		{open, bad, num(1), api.ErrArg, api.ErrArg, api.ErrArg},
		{full, far, num(1), api.ErrArg, api.ErrArg, api.ErrArg},
		{open, long, num(1), api.ErrLimit, api.ErrLimit, api.ErrLimit},
		{both, long, bad, api.ErrLimit, api.ErrLimit, api.ErrLimit},
		{full, long, num(1), api.ErrLimit, api.ErrLimit, api.ErrLimit},
		{open, is, bad, api.OK, api.ErrArg, api.OK},
		{open, is, far, api.OK, api.ErrArg, api.OK},
		{open, isn, bad, api.ErrName, api.ErrArg, api.OK},
		{full, isn, bad, api.ErrName, api.ErrArg, api.OK},
		{none, isn, far, api.ErrName, api.ErrArg, api.OK},
		{locked, is, num(1), api.OK, api.ErrArg, api.ErrArg},
		{locked, isn, num(1), api.ErrName, api.ErrArg, api.OK},
		{locked, is, bad, api.OK, api.ErrArg, api.ErrArg},
		{both, is, num(1), api.OK, api.ErrArg, api.ErrArg},
		{both, isn, num(1), api.ErrName, api.ErrArg, api.OK},
		{blank, is, num(1), api.ErrName, api.ErrArg, api.OK},
		{full, isn, num(1), api.ErrName, api.ErrFull, api.OK},
		{none, is, num(1), api.ErrName, api.ErrFull, api.OK},
		{full, is, num(1), api.OK, api.OK, api.OK},
		{open, isn, num(1), api.ErrName, api.OK, api.OK},
		{run(open), run(is), run(num(1)), api.OK, api.OK, api.OK},
	} {
		w, u := mixed(t), mixed(t)
		v, get := Get(w.h, c.d, c.k)
		drop := Drop(w.h, c.d, c.k)
		set := Set(u.h, c.d, c.k, c.v)
		if get != c.get || drop != c.drop || set != c.set || (get != api.OK && v != (api.Object{})) {
			t.Errorf("P12.2: row %d: %v, %v, %v: Get %v, %d, Set %d, Drop %d, want %d, %d, %d", i, c.d, c.k, c.v, v, get, set, drop, c.get, c.set, c.drop)
		}
		if drop != api.OK {
			w.check(t, "P12.2: Drop that fails")
		}
		if set != api.OK {
			u.check(t, "P12.2: Set that fails")
		}
	}
}

// TestRoom fills dictionaries of all small sizes and tries one pair more.
func TestRoom(t *testing.T) {
	for _, n := range []int{0, 1, 2, 3, 7, 200, 1000} {
		w := start()
		d := w.dict(t, n)
		for i := range n {
			if e := w.set(t, d, num(i), name("v")); e != api.OK {
				t.Fatalf("P12.2: pair %d of %d: %d", i, n, e)
			}
			w.look(t, d)
		}
		for _, k := range []api.Object{num(n), name("k"), {Kind: api.Mark}} {
			if e := w.set(t, d, k, num(1)); e != api.ErrFull {
				t.Errorf("P12.2: a pair more than %d: %d", n, e)
			}
			w.get(t, d, k)
			w.drop(t, d, k)
		}
		w.check(t, "P12.2: full")
		if n == 0 {
			continue
		}
		for _, k := range []int{0, n / 2, n - 1} {
			if e := w.set(t, d, fixed(k<<16), num(k)); e != api.OK {
				t.Errorf("P12.2: key %d of %d: %d", k, n, e)
			}
		}
		w.check(t, "P12.2: full, set again")
		for _, k := range []int{n - 1, 0, n / 2} {
			w.drop(t, d, num(k))
			w.check(t, "P12.2: a pair less")
			if e := w.set(t, d, name("more"), num(k)); e != api.OK {
				t.Errorf("P12.2: a pair more fits: %d", e)
			}
			if e := w.set(t, d, name("too many"), num(k)); e != api.ErrFull {
				t.Errorf("P12.2: two pairs more: %d", e)
			}
			w.check(t, "P12.2: full again")
			w.drop(t, d, name("more"))
			w.set(t, d, num(k), num(k))
		}
	}
}

// TestSetAgain: the key that is stored stays as it was, the value does not, and the order remains.
func TestSetAgain(t *testing.T) {
	w := start()
	s := w.text("abc")
	d := w.dict(t, 4)
	for _, p := range []pair{{run(name("abc")), num(1)}, {fixed(131072), num(2)}, {num(3), num(3)}} {
		Set(w.h, d, p.k, p.v)
	}
	for i, p := range []pair{{s, run(name("new"))}, {num(2), nothing()}, {run(fixed(196608)), d}} {
		if e := Set(w.h, d, p.k, p.v); e != api.OK {
			t.Errorf("P12.2: row %d: %d", i, e)
		}
	}
	l, e := Pairs(w.h, d)
	want := []api.Object{name("abc"), run(name("new")), fixed(131072), nothing(), num(3), d}
	if e != api.OK || !slices.Equal(l, want) {
		t.Errorf("P12.4: %v, %d, want %v", l, e, want)
	}
}

// TestDropEach drops each pair of a dictionary and looks at all of its items.
func TestDropEach(t *testing.T) {
	for n := 1; n <= 6; n++ {
		for spare := range 3 {
			for gone := range n {
				w := start()
				d := w.dict(t, n+spare)
				want := []api.Object{num(n - 1)}
				for i := range n {
					w.set(t, d, num(i), run(name(strings.Repeat("v", i))))
					if i != gone {
						want = append(want, num(i), run(name(strings.Repeat("v", i))))
					}
				}
				want = append(want, slices.Repeat([]api.Object{nothing()}, 2*(spare+1))...)
				if e := w.drop(t, d, fixed(gone<<16)); e != api.OK {
					t.Errorf("P12.2: Drop: %d", e)
				}
				if items, e := w.h.Items(d); e != api.OK || !slices.Equal(items, want) {
					t.Errorf("P12.2: %d of %d: %v, %d, want %v", gone, n, items, e, want)
				}
				if v, e := w.get(t, d, num(gone)); v != (api.Object{}) || e != api.ErrName {
					t.Errorf("P12.2: %d of %d: %v, %d", gone, n, v, e)
				}
				w.drop(t, d, num(gone))
				w.check(t, "P12.2: dropped twice")
			}
		}
	}
}

// TestOrder: a key that was dropped and set anew is the last one.
func TestOrder(t *testing.T) {
	w := start()
	d := w.dict(t, 5)
	for i := range 4 {
		w.set(t, d, num(i), num(10+i))
	}
	w.set(t, d, num(1), num(21))
	w.drop(t, d, num(0))
	w.set(t, d, num(0), num(30))
	w.set(t, d, num(2), num(22))
	w.drop(t, d, num(9))
	w.set(t, d, name("z"), num(40))
	w.set(t, d, name("y"), num(50))
	l, e := Pairs(w.h, d)
	want := []api.Object{num(1), num(21), num(2), num(22), num(3), num(13), num(0), num(30), name("z"), num(40)}
	if e != api.OK || !slices.Equal(l, want) {
		t.Errorf("P12.4: %v, %d, want %v", l, e, want)
	}
	w.check(t, "P12.4: order")
}

// TestDropAll empties a dictionary from the front, from the back and from the middle, and fills it again.
func TestDropAll(t *testing.T) {
	w := start()
	d := w.dict(t, 9)
	for from := range 3 {
		for i := range 9 {
			w.set(t, d, num(i), num(i*from))
		}
		for left := 9; left > 0; left-- {
			b := w.books[d.N]
			k := b.pairs[(left-1)*from/2].k
			w.drop(t, d, k)
			w.check(t, "P12.2: Drop")
		}
		if n, e := Len(w.h, d); n != 0 || e != api.OK {
			t.Errorf("P12.3: %d, %d", n, e)
		}
	}
}

// TestPairsAreNew: what Pairs returned stays as it is, and the dictionary stays as it is if it is changed.
func TestPairsAreNew(t *testing.T) {
	w := mixed(t)
	for d := 5; d <= 10; d++ {
		first, _ := Pairs(w.h, dictOf(d))
		second, _ := Pairs(w.h, dictOf(d))
		before := slices.Clone(first)
		w.set(t, dictOf(d), name("abc"), num(-5))
		w.set(t, dictOf(d), name("more"), num(-6))
		w.drop(t, dictOf(d), num(1))
		if !slices.Equal(first, before) {
			t.Errorf("P12.3: Pairs changed: %v, want %v", first, before)
		}
		for i := range first {
			first[i] = name("changed")
		}
		for spare := first[:cap(first)]; len(spare) > 0; spare = spare[1:] {
			spare[0] = name("spare")
		}
		if !slices.Equal(second, before) {
			t.Errorf("P12.3: two results share memory: %v", second)
		}
		w.check(t, "P12.3: Pairs")
	}
}

// TestItself: a dictionary may be a key and a value of itself.
func TestItself(t *testing.T) {
	w := start()
	d := w.dict(t, 2)
	w.set(t, d, d, run(d))
	if v, e := Get(w.h, d, run(d)); v != run(d) || e != api.OK {
		t.Errorf("P12.2: %v, %d", v, e)
	}
	w.check(t, "P12.2: itself")
	w.drop(t, d, d)
	w.check(t, "P12.2: itself, dropped")
}

// TestCopies: a dictionary is in its heap alone, so that copies of the heap have their own.
func TestCopies(t *testing.T) {
	w := mixed(t)
	c := w.copy()
	w.set(t, dictOf(5), name("new"), num(1))
	w.drop(t, dictOf(6), num(1))
	c.check(t, "P12.4: the copy")
	c.set(t, dictOf(5), name("other"), num(2))
	c.drop(t, dictOf(6), name("abc"))
	w.check(t, "P12.4: the original")
	w.get(t, dictOf(5), name("other"))
	c.get(t, dictOf(5), name("new"))
	kept := c.copy()
	c.drop(t, dictOf(5), name("abc"))
	c.h.Become(kept.h)
	kept.h = c.h
	kept.check(t, "P12.4: restored")
	kept.get(t, dictOf(5), name("abc"))
}

// TestShared: all Dicts of a cell are one dictionary.
func TestShared(t *testing.T) {
	w := start()
	d := w.dict(t, 2)
	other := w.dict(t, 2)
	w.set(t, d, name("a"), num(1))
	w.set(t, run(d), name("b"), num(2))
	w.set(t, other, name("a"), num(3))
	for _, c := range []struct {
		d, k api.Object
		want int
	}{{d, name("b"), 2}, {run(d), name("a"), 1}, {other, name("a"), 3}} {
		if v, e := Get(w.h, c.d, c.k); v != num(c.want) || e != api.OK {
			t.Errorf("P12.4: Get(%v, %v): %v, %d", c.d, c.k, v, e)
		}
	}
	w.check(t, "P12.4: shared")
}

// TestDamaged: nothing is said of a cell that the heap's calls changed, but every call returns.
func TestDamaged(t *testing.T) {
	for _, first := range []api.Object{num(-1), num(0), num(2), num(3), num(4), num(1<<31 - 1), num(-1<<31 + 1), nothing(), name("x"), {Kind: api.Array, Len: 1}, {Kind: api.Save, N: 1<<31 - 1}} {
		for item := range 8 {
			w := mixed(t)
			d := dictOf(6)
			w.h.Set(d, item, nothing())
			w.h.Set(d, 0, first)
			for _, k := range []api.Object{name("abc"), num(1), {Kind: api.Bool}, name("new"), nothing(), d} {
				Get(w.h, d, k)
				Set(w.h, d, k, num(1))
				Drop(w.h, d, k)
				Len(w.h, d)
				Pairs(w.h, d)
			}
			if n, e := Room(w.h, d); n != 3 || e != api.OK {
				t.Errorf("P12.3: Room: %d, %d", n, e)
			}
		}
	}
}

// TestRandom makes many calls with few keys, so that many of them find one.
func TestRandom(t *testing.T) {
	r := rand.New(rand.NewSource(12))
	for range 100 {
		w := mixed(t)
		var kept []*world
		keys := randomKeys(r, w)
		for step := range 400 {
			d := dictOf(5 + r.Intn(w.h.Cells()-5))
			k, v := keys[r.Intn(len(keys))], keys[r.Intn(len(keys))]
			switch r.Intn(12) {
			case 0, 1, 2, 3:
				w.set(t, d, k, v)
			case 4, 5:
				w.drop(t, d, k)
			case 6, 7, 8:
				w.get(t, d, k)
			case 9:
				w.look(t, d)
			case 10:
				w.dict(t, r.Intn(12))
			case 11:
				if r.Intn(10) == 0 {
					w.lock(d)
				} else if len(kept) < 4 {
					kept = append(kept, w)
					w = w.copy()
				}
			}
			if step%20 == 0 {
				w.check(t, "P12.4: random calls")
			}
		}
		for _, u := range append(kept, w) {
			u.check(t, "P12.4: random calls, at the end")
		}
	}
}

// randomKeys returns a few keys, with others that are the same, and some that are none.
func randomKeys(r *rand.Rand, w *world) []api.Object {
	all, may, near := objects(), valid(w), numbers()
	keys := []api.Object{name("abc"), {Kind: api.String, N: 2, Len: 3}, num(1), fixed(65536), nothing()}
	for range 4 {
		keys = append(keys, all[r.Intn(len(all))], may[r.Intn(len(may))], may[r.Intn(len(may))], near[r.Intn(len(near))])
	}
	return keys
}
