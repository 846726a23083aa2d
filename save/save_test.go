package save

import (
	"math/rand"
	"slices"
	"testing"

	"tympan/api"
	"tympan/dict"
	"tympan/heap"
)

// TestNil: a nil heap and nil Saves come before every other error, and nothing is changed.
func TestNil(t *testing.T) {
	var none *Saves
	for _, w := range []*world{start(), stacked(t, 1, 1), stacked(t, 3, 5), stacked(t, 2, 11)} {
		for _, h := range []*heap.Heap{w.h, nil} {
			if o, e := none.Save(h); o != (api.Object{}) || e != api.ErrArg {
				t.Errorf("P13.1: Save of nil Saves: %v, %d", o, e)
			}
		}
		if o, e := w.s.Save(nil); o != (api.Object{}) || e != api.ErrArg {
			t.Errorf("P13.1: Save of a nil heap: %v, %d", o, e)
		}
		before := picture(t, w.h)
		for _, o := range objects() {
			if e, f, g := none.Back(w.h, o), none.Back(nil, o), w.s.Back(nil, o); e != api.ErrArg || f != api.ErrArg || g != api.ErrArg {
				t.Fatalf("P13.2: Back(%v): nil Saves %d, both nil %d, a nil heap %d", o, e, f, g)
			}
			if none.Newer(o, saveOf(5)) || none.Newer(saveOf(1), o) || none.Newer(o, o) {
				t.Fatalf("P13.3: Newer of nil Saves: %v", o)
			}
		}
		if n := none.Len(); n != 0 {
			t.Errorf("P13.3: Len of nil Saves: %d", n)
		}
		if !slices.EqualFunc(picture(t, w.h), before, alike) {
			t.Errorf("P13.2: a call that fails changed the heap")
		}
		w.check(t, "calls that fail")
	}
}

// TestLimit opens as many saves as there may be, and more.
func TestLimit(t *testing.T) {
	w := mixed()
	for n := 1; n <= 10; n++ {
		if o := w.save(t); o != (api.Object{Kind: api.Save, N: n}) {
			t.Errorf("P13.1: save %d: %v", n, o)
		}
		w.check(t, "P13.1: one save more")
		w.h.Array(1)
	}
	for range 3 {
		if o, e := w.s.Save(w.h); o != (api.Object{}) || e != api.ErrLimit {
			t.Errorf("P13.1: a save too many: %v, %d", o, e)
		}
		w.check(t, "P13.1: a save too many")
	}
	w.back(t, saveOf(10))
	if o := w.save(t); o != saveOf(11) {
		t.Errorf("P13.1: after saves that failed: %v", o)
	}
	w.save(t)
	w.check(t, "P13.1: full again")
}

// TestNumbers: no number is used twice, however many saves are closed, and a call that fails uses none.
func TestNumbers(t *testing.T) {
	w := start()
	next := 1
	for _, left := range []int{9, 9, 0, 3, 8, 0, 9, 1} {
		for len(w.open) < 10 {
			if o := w.save(t); o != saveOf(next) {
				t.Errorf("P13.1: %v, want number %d", o, next)
			}
			next++
		}
		w.save(t)
		w.s.Save(nil)
		w.back(t, saveOf(next))
		w.s.Back(nil, saveOf(next-1))
		if e := w.back(t, saveOf(w.open[left].n)); e != api.OK || w.s.Len() != left {
			t.Errorf("P13.2: %d, %d saves are open, want %d", e, w.s.Len(), left)
		}
		w.check(t, "P13.1: numbers")
	}
}

// TestBackToEach: for any number of open saves, Back to each of them closes it and the later ones.
func TestBackToEach(t *testing.T) {
	for _, first := range []int{1, 2, 5} {
		for last := first; last < first+10; last++ {
			for n := first; n <= last; n++ {
				for _, o := range []api.Object{saveOf(n), run(saveOf(n))} {
					w := stacked(t, first, last)
					if e := w.back(t, o); e != api.OK || w.s.Len() != n-first {
						t.Errorf("P13.2: Back to %d of %d to %d: %d, %d are open", n, first, last, e, w.s.Len())
					}
					w.check(t, "P13.2: Back")
					for again := n; again <= last; again++ {
						if e := w.back(t, saveOf(again)); e != api.ErrSave {
							t.Errorf("P13.2: Back to %d, which is closed: %d", again, e)
						}
					}
					if n > first {
						w.back(t, saveOf(first+(n-first)/2))
						w.check(t, "P13.2: Back to an earlier save")
					}
					w.save(t)
					w.check(t, "P13.1: a save after Back")
				}
			}
		}
	}
}

// TestBackOfEveryObject: only the objects that Save returned, whatever their Exec, are open saves.
func TestBackOfEveryObject(t *testing.T) {
	for _, first := range []int{1, 3, 4, 6} {
		w := stacked(t, first, 5)
		before := picture(t, w.h)
		for _, o := range objects() {
			if w.index(o) >= 0 {
				u := stacked(t, first, 5)
				if e := u.back(t, o); e != api.OK {
					t.Errorf("P13.2: Back(%v): %d", o, e)
				}
				u.check(t, "P13.2: Back")
			} else if e := w.s.Back(w.h, o); e != api.ErrSave {
				t.Errorf("P13.2: Back(%v): %d", o, e)
			}
		}
		if got := picture(t, w.h); !slices.EqualFunc(got, before, alike) {
			t.Errorf("P13.2: Back that fails: the heap is %v, want %v", got, before)
		}
		w.check(t, "P13.2: Back that fails")
	}
}

// changes are what may be done to the heap of mixed between a save and Back.
func changes() []func(h *heap.Heap) {
	array, text, d := api.Object{Kind: api.Array, Len: 3}, api.Object{Kind: api.String, N: 1, Len: 3}, api.Object{Kind: api.Dict, N: 2}
	empty := []api.Object{{Kind: api.Array, N: 3}, {Kind: api.String, N: 4}, {Kind: api.Dict, N: 5}}
	return []func(h *heap.Heap){
		func(h *heap.Heap) {},
		func(h *heap.Heap) { h.Set(array, 2, text) },
		func(h *heap.Heap) { h.Set(text, 0, num(255)) },
		func(h *heap.Heap) { h.Put(text, 1, api.Object{Kind: api.String, N: 1, Len: 2}) },
		func(h *heap.Heap) { h.Put(array, 0, api.Object{Kind: api.Array, N: 6, Len: 2}) },
		func(h *heap.Heap) { dict.Set(h, d, name("key"), array) },
		func(h *heap.Heap) { h.Set(d, 6, num(1)) },
		func(h *heap.Heap) { h.Lock(array) },
		func(h *heap.Heap) { h.Lock(text) },
		func(h *heap.Heap) { h.Lock(d) },
		func(h *heap.Heap) {
			for _, o := range empty {
				h.Lock(o)
			}
		},
		func(h *heap.Heap) { h.Array(0) },
		func(h *heap.Heap) { h.String("more") },
		func(h *heap.Heap) {
			a, _ := h.Array(5)
			dict.Set(h, d, name("key"), a)
			h.Set(array, 0, a)
			h.Lock(a)
		},
		func(h *heap.Heap) {
			for range 3000 {
				h.Dict(1)
			}
		},
		func(h *heap.Heap) { h.Array(40000 - h.Used()) },
		func(h *heap.Heap) { h.Become(heap.New()) },
		func(h *heap.Heap) { h.Become(mixed().h) },
	}
}

// TestBackRestores makes every change, and every two of them, between a save and Back.
func TestBackRestores(t *testing.T) {
	for i, one := range changes() {
		for k, two := range changes() {
			w := mixed()
			first := w.save(t)
			one(w.h)
			second := w.save(t)
			two(w.h)
			w.check(t, "P13.4: changes after a save")
			w.back(t, second)
			w.check(t, "P13.4: changes undone")
			two(w.h)
			one(w.h)
			w.check(t, "P13.4: changes after Back")
			if e := w.back(t, first); e != api.OK || w.s.Len() != 0 || w.h.Cells() != 9 {
				t.Errorf("P13.4: changes %d and %d: %d, %d saves, %d cells", i, k, e, w.s.Len(), w.h.Cells())
			}
		}
	}
}

// TestEmptyHeap saves a heap without cells.
func TestEmptyHeap(t *testing.T) {
	w := start()
	o := w.save(t)
	a, _ := w.h.Array(2)
	b, _ := w.h.String("abc")
	for _, x := range []api.Object{a, b, {Kind: api.Dict}} {
		if !w.newer(t, o, x) {
			t.Errorf("P13.3: %v is newer than an empty heap", x)
		}
	}
	w.back(t, o)
	if w.h.Cells() != 0 || w.h.Used() != 0 || w.h.May(a) || w.h.May(b) {
		t.Errorf("P13.4: %d cells, %d items", w.h.Cells(), w.h.Used())
	}
	if next, e := w.h.String("next"); next.N != 0 || e != api.OK {
		t.Errorf("P13.4: the next cell: %v, %d", next, e)
	}
}

// TestRoomAfterBack: a heap that was full has room again.
func TestRoomAfterBack(t *testing.T) {
	w := mixed()
	o := w.save(t)
	w.h.Array(40000 - w.h.Used())
	if _, e := w.h.Array(1); e != api.ErrLimit {
		t.Fatalf("the heap is not full: %d", e)
	}
	w.back(t, o)
	if _, e := w.h.Array(1); e != api.OK {
		t.Errorf("P13.4: no room after Back: %d", e)
	}
}

// TestOtherHeaps: what a save stored may be brought back into any heap, and makes no two heaps share anything.
func TestOtherHeaps(t *testing.T) {
	w := mixed()
	o := w.save(t)
	u := &world{heap.New(), w.s, w.open, w.last}
	u.h.String("other")
	p := u.save(t)
	if u.newer(t, p, api.Object{Kind: api.Array}) || !u.newer(t, p, api.Object{Kind: api.Array, N: 1}) || u.newer(t, o, api.Object{Kind: api.Array, N: 8}) {
		t.Errorf("P13.3: each save has the number of cells of its own heap")
	}
	u.check(t, "two heaps")
	w.h.Set(api.Object{Kind: api.Array, Len: 3}, 0, num(-1))
	before := picture(t, w.h)
	u.back(t, o)
	u.check(t, "P13.2: Back into another heap")
	u.h.Set(api.Object{Kind: api.Array, Len: 3}, 0, num(-2))
	if got := picture(t, w.h); !slices.EqualFunc(got, before, alike) {
		t.Errorf("P13.4: Back changed another heap: %v, want %v", got, before)
	}
	if e := w.s.Back(w.h, o); e != api.ErrSave {
		t.Errorf("P13.2: Back twice: %d", e)
	}
}

// TestOtherSaves: Saves share nothing. They tell the objects of one another only by their numbers.
func TestOtherSaves(t *testing.T) {
	w := mixed()
	u := &world{h: w.h, s: New()}
	one := w.save(t)
	w.save(t)
	w.h.Array(1)
	if o := u.save(t); o != one {
		t.Errorf("P13.1: other Saves begin with %v", o)
	}
	if e := u.back(t, saveOf(2)); e != api.ErrSave {
		t.Errorf("P13.2: a save of other Saves: %d", e)
	}
	w.check(t, "other Saves")
	u.check(t, "other Saves")
	w.back(t, one)
	u.check(t, "P13.2: Back of other Saves")
	u.back(t, one)
	if w.h.Cells() != 10 {
		t.Errorf("P13.2: %d cells", w.h.Cells())
	}
}

// TestNewer calls Newer with every object in both places.
func TestNewer(t *testing.T) {
	for _, first := range []int{1, 3, 4} {
		w := stacked(t, first, 6)
		for _, x := range objects() {
			for n := -1; n <= 8; n++ {
				w.newer(t, saveOf(n), x)
				w.newer(t, run(saveOf(n)), x)
			}
			for _, y := range []api.Object{{Kind: api.Array, N: 40000}, run(saveOf(7)), x} {
				w.newer(t, x, y)
			}
		}
		w.check(t, "P13.3: Newer")
	}
}

// TestNewerRows has the answers written out: saves 3 to 5 are open, of heaps with 9, 10 and 11 cells.
func TestNewerRows(t *testing.T) {
	array, text, d := api.Object{Kind: api.Array}, api.Object{Kind: api.String}, api.Object{Kind: api.Dict}
	at := func(o api.Object, n int) api.Object {
		o.N = n
		return o
	}
	for i, c := range []struct {
		o, x api.Object
		want bool
	}{
		{saveOf(3), at(array, 8), false},
		{saveOf(3), at(array, 9), true},
		{saveOf(3), run(at(array, 9)), true},
		{saveOf(3), run(at(array, 8)), false},
		{saveOf(3), at(text, 8), false},
		{saveOf(3), at(text, 9), true},
		{saveOf(3), at(text, 40001), true},
		{saveOf(3), at(d, 8), false},
		{saveOf(3), at(d, 9), true},
		{saveOf(4), at(d, 9), false},
		{saveOf(4), at(d, 10), true},
		{saveOf(5), at(array, 10), false},
		{saveOf(5), at(array, 11), true},
		{saveOf(5), api.Object{Kind: api.Array, N: 11, At: -5, Len: 99}, true},
		{saveOf(5), api.Object{Kind: api.Array, At: 99, Len: 99}, false},
		{saveOf(3), at(array, -1), false},
		{saveOf(3), at(text, -9), false},
		{saveOf(3), at(d, -1<<63), false},
		{saveOf(4), saveOf(3), false},
		{saveOf(4), saveOf(4), true},
		{saveOf(4), run(saveOf(4)), true},
		{saveOf(4), saveOf(5), true},
		{saveOf(4), saveOf(6), true},
		{saveOf(4), saveOf(0), false},
		{saveOf(4), saveOf(-4), false},
		{run(saveOf(4)), saveOf(4), true},
		{run(saveOf(4)), at(array, 10), true},
		{saveOf(3), num(99), false},
		{saveOf(3), name("n"), false},
		{saveOf(3), at(api.Object{Kind: api.Fix}, 99), false},
		{saveOf(3), at(api.Object{Kind: api.Op}, 99), false},
		{saveOf(3), at(api.Object{Kind: 12}, 99), false},
		{saveOf(3), api.Object{}, false},
		{saveOf(2), at(array, 99), false},
		{saveOf(2), saveOf(5), false},
		{saveOf(6), at(array, 99), false},
		{saveOf(6), saveOf(6), false},
		{saveOf(0), at(array, 99), false},
		{api.Object{}, api.Object{}, false},
		{num(4), at(array, 99), false},
		{at(array, 4), at(array, 99), false},
		{api.Object{Kind: api.Save, N: 4, At: 1}, at(array, 99), false},
	} {
		w := stacked(t, 3, 5)
		// The heap has other numbers of cells now than at the saves.
		if i%2 == 0 {
			w.h.Become(heap.New())
		}
		if got := w.s.Newer(c.o, c.x); got != c.want {
			t.Errorf("P13.3: row %d: Newer(%v, %v): %v", i, c.o, c.x, got)
		}
	}
}

// TestNotNewer: objects that existed at a save are not newer, and those that were made since are.
func TestNotNewer(t *testing.T) {
	w := mixed()
	for range 10 {
		old := picture(t, w.h)
		earlier := slices.Clone(w.open)
		o := w.save(t)
		a, _ := w.h.Array(1)
		b, _ := w.h.String("abc")
		d, _ := w.h.Dict(1)
		for _, c := range old {
			if w.newer(t, o, c.whole) {
				t.Errorf("P13.4: %v is newer than %v", c.whole, o)
			}
		}
		for _, one := range earlier {
			if w.newer(t, o, saveOf(one.n)) {
				t.Errorf("P13.4: save %d is newer than %v", one.n, o)
			}
		}
		for _, x := range []api.Object{a, b, d, o} {
			if !w.newer(t, o, x) {
				t.Errorf("P13.3: %v is not newer than %v", x, o)
			}
		}
	}
}

// TestClosedAreLetGo: of saves that are closed, only the last number is kept.
func TestClosedAreLetGo(t *testing.T) {
	w := stacked(t, 1, 10)
	w.back(t, saveOf(4))
	for i, one := range w.s.kept[3:] {
		if one != (stored{}) {
			t.Errorf("save %d is closed, but kept", 4+i)
		}
	}
	w.back(t, saveOf(1))
	if *w.s != (Saves{last: 10}) {
		t.Errorf("closed saves are kept: %v", *w.s)
	}
}

// TestRandom makes many calls in any order.
func TestRandom(t *testing.T) {
	r := rand.New(rand.NewSource(13))
	all := objects()
	for range 60 {
		w := mixed()
		for step := range 150 {
			switch r.Intn(10) {
			case 0, 1, 2:
				w.save(t)
			case 3:
				if len(w.open) > 0 {
					o := saveOf(w.open[r.Intn(len(w.open))].n)
					o.Exec = r.Intn(2) == 0
					w.back(t, o)
				}
			case 4:
				w.back(t, all[r.Intn(len(all))])
			case 5, 6:
				w.newer(t, saveOf(r.Intn(w.last+2)), all[r.Intn(len(all))])
			default:
				disturb(r, w.h)
			}
			if step%25 == 0 {
				w.check(t, "P13.4: random calls")
			}
		}
		w.check(t, "P13.4: random calls, at the end")
	}
}

// disturb makes some change of a heap.
func disturb(r *rand.Rand, h *heap.Heap) {
	o := api.Object{Kind: 8 + r.Intn(3), N: r.Intn(h.Cells() + 1)}
	if o.Kind != api.Dict {
		o.Len = r.Intn(4)
	}
	switch r.Intn(12) {
	case 0:
		h.Array(r.Intn(4))
	case 1:
		h.String("wxyz"[:r.Intn(5)])
	case 2:
		h.Dict(r.Intn(3))
	case 3:
		h.Lock(o)
	case 4:
		h.Put(o, 0, api.Object{Kind: o.Kind, N: r.Intn(h.Cells() + 1), Len: r.Intn(4)})
	default:
		h.Set(o, r.Intn(4), num(r.Intn(256)))
	}
}
