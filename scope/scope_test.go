package scope

import (
	"math"
	"math/rand"
	"slices"
	"strings"
	"testing"

	"tympan/api"
	"tympan/dict"
)

// TestNil: every call on a nil Scope that returns an error returns ErrArg, whatever its arguments.
func TestNil(t *testing.T) {
	var s *Scope
	for _, o := range objects() {
		v, d, e := s.Find(o)
		if v != (api.Object{}) || d != (api.Object{}) || e != api.ErrArg {
			t.Fatalf("P16.3: Find(%v): %v, %v, %d", o, v, d, e)
		}
		for _, x := range []api.Object{o, num(1), {}} {
			if e, f := s.Def(o, x), s.Store(o, x); e != api.ErrArg || f != api.ErrArg {
				t.Fatalf("P16.3: Def(%v, %v): %d, Store: %d", o, x, e, f)
			}
		}
		if e, f := s.Begin(o), s.Become([]api.Object{o, o}); e != api.ErrArg || f != api.ErrArg {
			t.Fatalf("P16.2: Begin(%v): %d, Become: %d", o, e, f)
		}
	}
	for _, l := range [][]api.Object{nil, {}, {dictOf(0)}, make([]api.Object, 21)} {
		if e := s.Become(l); e != api.ErrArg {
			t.Errorf("P16.2: Become(%v): %d", l, e)
		}
	}
	if e, n, l := s.End(), s.Depth(), s.Dicts(); e != api.ErrArg || n != 0 || len(l) != 0 {
		t.Errorf("P16.2: End: %d, Depth: %d, Dicts: %v", e, n, l)
	}
}

// TestZero: a Scope that New did not return has no heap and no dictionaries.
func TestZero(t *testing.T) {
	var s Scope
	for range 2 {
		for _, o := range []api.Object{name("add"), num(1), dictOf(0), nothing(), {}} {
			v, d, e := s.Find(o)
			if v != (api.Object{}) || d != (api.Object{}) || e != api.ErrArg {
				t.Errorf("P16.3: Find(%v): %v, %v, %d", o, v, d, e)
			}
			if a, b, c, d := s.Def(o, num(1)), s.Store(o, num(1)), s.Begin(o), s.Become([]api.Object{o, o}); a != api.ErrArg || b != api.ErrArg || c != api.ErrArg || d != api.ErrArg {
				t.Errorf("P16.3: %v: %d, %d, %d, %d", o, a, b, c, d)
			}
		}
		if e, n, l := s.End(), s.Depth(), s.Dicts(); e != api.ErrArg || n != 0 || len(l) != 0 {
			t.Errorf("P16.2: End: %d, Depth: %d, Dicts: %v", e, n, l)
		}
		if e := s.Become(nil); e != api.ErrArg {
			t.Errorf("P16.2: Become(nil): %d", e)
		}
	}
}

// TestBeginOfEveryKind begins every object on stacks of every depth that matters.
func TestBeginOfEveryKind(t *testing.T) {
	w := mixed(t)
	for _, depth := range []int{2, 3, 19, 20} {
		for w.s.Depth() < depth {
			w.begin(t, dictOf(open))
		}
		for _, o := range objects() {
			if w.begin(t, o) == api.OK {
				w.end(t)
			}
		}
		w.check(t, "P16.2: Begin and End")
	}
}

// TestBegin has the errors one by one, and several at once.
func TestBegin(t *testing.T) {
	bad := []struct {
		d    api.Object
		want api.Errno
	}{
		{api.Object{}, api.ErrType},
		{nothing(), api.ErrType},
		{num(open), api.ErrType},
		{name("abc"), api.ErrType},
		{api.Object{Kind: api.Array, Len: 3}, api.ErrType},
		{api.Object{Kind: api.String, N: 2, Len: 3}, api.ErrType},
		{api.Object{Kind: api.Array, N: 99, At: -1}, api.ErrType},
		{api.Object{Kind: api.Int, N: math.MinInt}, api.ErrType},
		{api.Object{Kind: 12, N: open}, api.ErrType},
		{dictOf(-1), api.ErrArg},
		{dictOf(0), api.ErrArg},
		{dictOf(2), api.ErrArg},
		{dictOf(12), api.ErrArg},
		{dictOf(math.MaxInt), api.ErrArg},
		{dictOf(math.MinInt), api.ErrArg},
		{api.Object{Kind: api.Dict, N: open, At: 1}, api.ErrArg},
		{api.Object{Kind: api.Dict, N: open, Len: 9}, api.ErrArg},
		{api.Object{Kind: api.Dict, N: open, S: "s"}, api.ErrArg},
	}
	w := mixed(t)
	for depth := 2; depth <= 20; depth++ {
		for _, c := range bad {
			if e := w.s.Begin(c.d); e != c.want {
				t.Errorf("P16.2: Begin(%v) at depth %d: %d, want %d", c.d, depth, e, c.want)
			}
		}
		w.check(t, "P16.2: Begin that fails")
		d := []api.Object{dictOf(closed), dictOf(open), run(dictOf(open)), dictOf(both), dictOf(system), dictOf(user), dictOf(none)}[depth%7]
		want := api.OK
		if depth == 20 {
			want = api.ErrScope
		}
		if e := w.begin(t, d); e != want {
			t.Errorf("P16.2: Begin at depth %d: %d, want %d", depth, e, want)
		}
		w.check(t, "P16.2: Begin")
	}
}

// TestEnd ends all dictionaries but two, also after calls of Begin that failed.
func TestEnd(t *testing.T) {
	for most := 2; most <= 20; most++ {
		w := mixed(t)
		if e := w.end(t); e != api.ErrScope {
			t.Errorf("P16.2: End of two: %d", e)
		}
		for w.s.Depth() < most {
			w.begin(t, dictOf([]int{open, full, open, system}[w.s.Depth()%4]))
		}
		w.begin(t, num(1))
		w.begin(t, dictOf(99))
		if most == 20 {
			w.begin(t, dictOf(open))
		}
		w.check(t, "P16.2: Begin that fails")
		for depth := most; depth > 2; depth-- {
			if e := w.end(t); e != api.OK || w.s.Depth() != depth-1 {
				t.Errorf("P16.2: End of %d: %d, %d", depth, e, w.s.Depth())
			}
			w.check(t, "P16.2: End")
		}
		for range 3 {
			if e := w.end(t); e != api.ErrScope {
				t.Errorf("P16.2: End of two: %d", e)
			}
		}
		w.check(t, "P16.2: End of two")
	}
}

// TestDictsIsNew: what Dicts returned stays as it is, and the stack stays as it is if it is changed.
func TestDictsIsNew(t *testing.T) {
	for depth := 2; depth <= 20; depth++ {
		w := mixed(t)
		for w.s.Depth() < depth {
			w.begin(t, dictOf(open))
		}
		first, second := w.s.Dicts(), w.s.Dicts()
		before := slices.Clone(first)
		w.end(t)
		w.begin(t, dictOf(full))
		w.begin(t, dictOf(closed))
		if !slices.Equal(first, before) {
			t.Errorf("P16.2: Dicts changed: %v, want %v", first, before)
		}
		w.become(t, []api.Object{dictOf(open), dictOf(user), dictOf(full)})
		if !slices.Equal(first, before) {
			t.Errorf("P16.2: Dicts changed: %v, want %v", first, before)
		}
		w.become(t, before)
		third := w.s.Dicts()
		for _, l := range [][]api.Object{first, third} {
			for i := range l[:cap(l)] {
				l[:cap(l)][i] = num(i)
			}
		}
		if !slices.Equal(second, before) {
			t.Errorf("P16.2: two results share memory: %v", second)
		}
		w.check(t, "P16.2: Dicts")
		w.begin(t, dictOf(none))
		w.check(t, "P16.2: Begin after Dicts")
	}
}

// TestBecomeLengths hands over stacks of every length, of valid elements and of others.
func TestBecomeLengths(t *testing.T) {
	w := mixed(t)
	for _, first := range []api.Object{dictOf(open), run(dictOf(system)), num(1), dictOf(99), {}} {
		for n := range 24 {
			l := slices.Repeat([]api.Object{first}, n)
			want := api.OK
			switch {
			case n < 2 || n > 20:
				want = api.ErrScope
			case first.Kind != api.Dict:
				want = api.ErrType
			case first.N == 99:
				want = api.ErrArg
			}
			if e := w.become(t, l); e != want {
				t.Errorf("P16.2: Become of %d times %v: %d, want %d", n, first, e, want)
			}
			w.check(t, "P16.2: Become")
		}
	}
	for _, l := range [][]api.Object{nil, {}, make([]api.Object, 1000), slices.Repeat([]api.Object{dictOf(open)}, 1000)} {
		if e := w.become(t, l); e != api.ErrScope {
			t.Errorf("P16.2: Become of %d: %d", len(l), e)
		}
	}
	w.check(t, "P16.2: Become that fails")
}

// TestBecomeOfEveryKind has every object first, in the middle and last.
func TestBecomeOfEveryKind(t *testing.T) {
	w := mixed(t)
	before := w.keep()
	for _, o := range objects() {
		for at := range 3 {
			l := []api.Object{dictOf(user), run(dictOf(open)), dictOf(full)}
			l[at] = o
			if w.become(t, l) == api.OK {
				w.check(t, "P16.2: Become")
				w.reset(t, before)
			}
		}
	}
	w.check(t, "P16.2: Become of objects that may not be on a stack")
}

// TestBecomeOfTwoWrong: the error is that of the first element that is wrong.
func TestBecomeOfTwoWrong(t *testing.T) {
	w := mixed(t)
	for _, n := range []int{2, 3, 7, 20} {
		for i := range n {
			for j := range n {
				if i == j {
					continue
				}
				for _, c := range []struct{ kind, cell api.Object }{{num(1), dictOf(99)}, {api.Object{}, dictOf(-1)}, {api.Object{Kind: api.Array, Len: 3}, api.Object{Kind: api.Dict, N: open, Len: 1}}} {
					l := slices.Repeat([]api.Object{dictOf(open)}, n)
					l[i], l[j] = c.kind, c.cell
					want := api.ErrType
					if j < i {
						want = api.ErrArg
					}
					if e := w.become(t, l); e != want {
						t.Errorf("P16.2: Become(%v): %d, want %d", l, e, want)
					}
				}
			}
		}
	}
	w.check(t, "P16.2: Become that fails")
}

// TestBecomeOfOthersSlice: the slice that is handed over is neither changed nor kept, nor what is behind its end.
func TestBecomeOfOthersSlice(t *testing.T) {
	for _, n := range []int{2, 3, 10, 20} {
		w := mixed(t)
		whole := slices.Repeat([]api.Object{dictOf(open), run(dictOf(full))}, 20)
		l := whole[1 : 1+n]
		before := slices.Clone(whole)
		w.become(t, l)
		w.begin(t, dictOf(closed))
		w.end(t)
		w.end(t)
		w.begin(t, dictOf(both))
		w.begin(t, dictOf(none))
		w.end(t)
		if !slices.Equal(whole, before) {
			t.Errorf("P16.2: Become of %d changes its argument: %v", n, whole)
		}
		w.become(t, l)
		for i := range whole {
			whole[i] = num(i)
		}
		w.check(t, "P16.2: a change of what was handed over")
	}
}

// TestKeysOfEveryKind calls everything that takes a key with every object, on many stacks.
func TestKeysOfEveryKind(t *testing.T) {
	w := mixed(t)
	before := w.keep()
	for s, l := range stacks() {
		w.reset(t, before)
		w.become(t, l)
		for i, k := range objects() {
			if _, _, e := w.find(t, k); e == api.ErrName && (i+s)%3 > 0 {
				continue
			}
			e := w.def(t, k, num(i))
			w.find(t, k)
			f := w.store(t, k, num(-i))
			w.find(t, k)
			if e == api.OK && f == api.OK && i%4 == 0 {
				w.bringBack(before)
			}
		}
		w.check(t, "P16.3: keys")
	}
}

// TestValuesOfEveryKind defines and stores every object as a value.
func TestValuesOfEveryKind(t *testing.T) {
	w := mixed(t)
	all := objects()
	for s, l := range stacks() {
		w.become(t, l)
		for i := s % 5; i < len(all); i += 5 {
			w.def(t, name("abc"), all[i])
			w.find(t, name("abc"))
			w.store(t, name("pop"), all[i])
			w.find(t, name("pop"))
			w.def(t, nothing(), all[i])
			w.store(t, api.Object{Kind: api.String, N: 4, Len: 101}, all[i])
			w.store(t, name("new"), all[i])
			w.def(t, name("other"), all[i])
		}
		w.check(t, "P16.3: values")
	}
}

// TestFind looks for keys that some dictionaries of a stack have.
func TestFind(t *testing.T) {
	abc := api.Object{Kind: api.String, N: 2, Len: 3}
	stack := []int{system, user, open, full, closed, none}
	for i, c := range []struct {
		cells   []int
		k, v, d api.Object
		e       api.Errno
	}{
		{stack, name("abc"), num(90), dictOf(closed), api.OK},
		{stack[:4], name("abc"), num(80), dictOf(full), api.OK},
		{stack[:3], name("abc"), num(70), dictOf(open), api.OK},
		{stack[:2], name("abc"), api.Object{}, api.Object{}, api.ErrName},
		{stack, run(name("abc")), num(90), dictOf(closed), api.OK},
		{stack, abc, num(90), dictOf(closed), api.OK},
		{stack, run(abc), num(90), dictOf(closed), api.OK},
		{stack, api.Object{Kind: api.String, N: 2, At: 1, Len: 2}, api.Object{}, api.Object{}, api.ErrName},
		{stack, name("pop"), num(72), dictOf(open), api.OK},
		{stack[:2], name("pop"), operator(1), dictOf(system), api.OK},
		{stack, name("exch"), num(81), dictOf(full), api.OK},
		{stack, name("dup"), num(91), dictOf(closed), api.OK},
		{stack, name("setscreen"), operator(162), dictOf(system), api.OK},
		{stack, name("add"), operator(11), dictOf(system), api.OK},
		{stack, name("Add"), api.Object{}, api.Object{}, api.ErrName},
		{stack, name(""), api.Object{}, api.Object{}, api.ErrName},
		{stack, num(1), num(71), dictOf(open), api.OK},
		{stack, run(num(1)), num(71), dictOf(open), api.OK},
		{stack, fixed(65536), num(71), dictOf(open), api.OK},
		{stack, num(2), api.Object{}, api.Object{}, api.ErrName},
		{stack, dictOf(open), num(82), dictOf(full), api.OK},
		{stack, run(dictOf(open)), num(82), dictOf(full), api.OK},
		{stack, dictOf(full), api.Object{}, api.Object{}, api.ErrName},
		{stack, operator(1), api.Object{}, api.Object{}, api.ErrName},
		{[]int{user, both}, name("abc"), run(num(110)), dictOf(both), api.OK},
		{[]int{user, open}, name("add"), api.Object{}, api.Object{}, api.ErrName},
		{[]int{user, open, user, open, full}, name("pop"), num(72), dictOf(open), api.OK},
		{stack, nothing(), api.Object{}, api.Object{}, api.ErrType},
		{stack, api.Object{Kind: api.Null, N: 5}, api.Object{}, api.Object{}, api.ErrType},
		{stack, api.Object{}, api.Object{}, api.Object{}, api.ErrArg},
		{stack, name(strings.Repeat("n", 101)), api.Object{}, api.Object{}, api.ErrArg},
		{stack, name(strings.Repeat("n", 100)), api.Object{}, api.Object{}, api.ErrName},
		{stack, api.Object{Kind: api.String, N: 4, Len: 101}, api.Object{}, api.Object{}, api.ErrLimit},
		{stack, api.Object{Kind: api.String, N: 4, Len: 100}, api.Object{}, api.Object{}, api.ErrName},
		{stack, api.Object{Kind: api.String, N: 4, Len: 102}, api.Object{}, api.Object{}, api.ErrArg},
		{stack, api.Object{Kind: api.Array, N: 77}, api.Object{}, api.Object{}, api.ErrArg},
		{stack, dictOf(99), api.Object{}, api.Object{}, api.ErrArg},
		{stack, num(math.MaxInt), api.Object{}, api.Object{}, api.ErrArg},
	} {
		w := mixed(t)
		var l []api.Object
		for _, n := range c.cells {
			l = append(l, dictOf(n))
		}
		w.become(t, l)
		if v, d, e := w.s.Find(c.k); v != c.v || d != c.d || e != c.e {
			t.Errorf("P16.3: row %d: Find(%v): %v, %v, %d, want %v, %v, %d", i, c.k, v, d, e, c.v, c.d, c.e)
		}
		w.check(t, "P16.3: Find")
	}
}

// TestFindKeepsExec: the dictionary that Find returns is the object that was begun.
func TestFindKeepsExec(t *testing.T) {
	w := mixed(t)
	w.begin(t, run(dictOf(open)))
	w.begin(t, dictOf(full))
	if _, d, _ := w.s.Find(num(1)); d != run(dictOf(open)) {
		t.Errorf("P16.3: %v", d)
	}
	w.become(t, []api.Object{run(dictOf(system)), dictOf(open), run(dictOf(full))})
	for _, c := range []struct{ k, want api.Object }{{name("add"), run(dictOf(system))}, {num(1), dictOf(open)}, {name("exch"), run(dictOf(full))}} {
		if _, d, _ := w.s.Find(c.k); d != c.want {
			t.Errorf("P16.3: Find(%v): %v", c.k, d)
		}
	}
}

// TestDefAndStore has the results of both calls on many stacks, and where the value is after them; 0: the call returns an error.
func TestDefAndStore(t *testing.T) {
	is, isn, long, bad := name("abc"), name("new"), api.Object{Kind: api.String, N: 4, Len: 101}, api.Object{}
	for i, c := range []struct {
		cells      []int
		k, v       api.Object
		def, store api.Errno
		defined    int // the cell that Def changes
		stored     int // the cell that Store changes
	}{
		{[]int{system, user}, isn, num(1), api.OK, api.OK, user, user},
		{[]int{system, user}, name("add"), num(1), api.OK, api.OK, user, user},
		{[]int{system, user, open}, is, num(1), api.OK, api.OK, open, open},
		{[]int{system, user, full}, is, num(1), api.OK, api.OK, full, full},
		{[]int{system, open, user}, is, num(1), api.OK, api.OK, user, open},
		{[]int{system, open, full}, is, num(1), api.OK, api.OK, full, full},
		{[]int{system, full, open, user}, is, num(1), api.OK, api.OK, user, open},
		{[]int{system, open, full, user}, is, num(1), api.OK, api.OK, user, full},
		{[]int{system, open, full}, num(1), num(1), api.ErrFull, api.OK, 0, open},
		{[]int{system, open, full}, fixed(65536), num(1), api.ErrFull, api.OK, 0, open},
		{[]int{system, open, full}, name("pop"), num(1), api.ErrFull, api.OK, 0, open},
		{[]int{system, open, full}, name("add"), num(1), api.ErrFull, api.ErrFull, 0, 0},
		{[]int{system, open, full}, isn, num(1), api.ErrFull, api.ErrFull, 0, 0},
		{[]int{system, open, none}, is, num(1), api.ErrFull, api.OK, 0, open},
		{[]int{system, open, none}, isn, num(1), api.ErrFull, api.ErrFull, 0, 0},
		{[]int{system, closed, user}, is, num(1), api.OK, api.ErrArg, user, 0},
		{[]int{system, closed, user}, name("dup"), num(1), api.OK, api.ErrArg, user, 0},
		{[]int{system, closed, user}, name("pop"), num(1), api.OK, api.OK, user, user},
		{[]int{system, closed, full}, isn, num(1), api.ErrFull, api.ErrFull, 0, 0},
		{[]int{system, open, closed}, is, num(1), api.ErrArg, api.ErrArg, 0, 0},
		{[]int{system, open, closed}, num(1), num(1), api.ErrArg, api.OK, 0, open},
		{[]int{system, open, both}, isn, num(1), api.ErrArg, api.ErrArg, 0, 0},
		{[]int{open, user}, is, num(1), api.OK, api.OK, user, user},
		{[]int{open, user, open}, is, num(1), api.OK, api.OK, open, open},
		{[]int{open, user, open, user}, is, num(1), api.OK, api.OK, user, user},
		{[]int{open, open, user}, is, num(1), api.OK, api.OK, user, user},
		{[]int{open, full, open, user}, is, num(1), api.OK, api.OK, user, user},
		{[]int{open, full, open, user}, name("exch"), num(1), api.OK, api.OK, user, full},
		{[]int{open, open, full, user}, is, num(1), api.OK, api.OK, user, full},
		{[]int{full, open, full, none}, is, num(1), api.ErrFull, api.ErrFull, 0, 0},
		{[]int{closed, open, closed, user}, is, num(1), api.OK, api.OK, user, user},
		{[]int{closed, user, closed}, is, num(1), api.ErrArg, api.ErrArg, 0, 0},
		{[]int{user, system}, name("add"), num(1), api.ErrArg, api.ErrArg, 0, 0},
		{[]int{user, system, open}, name("add"), num(1), api.OK, api.ErrArg, open, 0},
		{[]int{user, user}, is, num(1), api.OK, api.OK, user, user},
		{[]int{user, full, closed}, name("exch"), num(1), api.ErrArg, api.OK, 0, full},
		{[]int{system, user}, is, bad, api.ErrArg, api.ErrArg, 0, 0},
		{[]int{system, open, full}, isn, bad, api.ErrArg, api.ErrArg, 0, 0},
		{[]int{system, open, full}, num(1), bad, api.ErrArg, api.ErrArg, 0, 0},
		{[]int{system, open, full}, num(1), dictOf(99), api.ErrArg, api.ErrArg, 0, 0},
		{[]int{system, user}, nothing(), num(1), api.ErrType, api.ErrType, 0, 0},
		{[]int{system, closed, both}, nothing(), bad, api.ErrType, api.ErrType, 0, 0},
		{[]int{system, open, none}, bad, num(1), api.ErrArg, api.ErrArg, 0, 0},
		{[]int{system, open, full}, long, num(1), api.ErrLimit, api.ErrLimit, 0, 0},
		{[]int{system, open, both}, long, bad, api.ErrLimit, api.ErrLimit, 0, 0},
		{[]int{closed, both}, dictOf(99), bad, api.ErrArg, api.ErrArg, 0, 0},
		{[]int{system, open, user}, api.Object{Kind: api.String, N: 2, Len: 3}, run(isn), api.OK, api.OK, user, open},
		{[]int{system, full, user}, run(dictOf(open)), dictOf(open), api.OK, api.OK, user, full},
	} {
		w := mixed(t)
		before := w.keep()
		var l []api.Object
		for _, n := range c.cells {
			l = append(l, dictOf(n))
		}
		w.become(t, l)
		if e := w.def(t, c.k, c.v); e != c.def {
			t.Errorf("P16.3: row %d: Def(%v, %v): %d, want %d", i, c.k, c.v, e, c.def)
		}
		w.has(t, i, c.defined, c.k, c.v, before)
		w.bringBack(before)
		if e := w.store(t, c.k, c.v); e != c.store {
			t.Errorf("P16.3: row %d: Store(%v, %v): %d, want %d", i, c.k, c.v, e, c.store)
		}
		w.has(t, i, c.stored, c.k, c.v, before)
	}
}

// has looks whether a cell has a pair, and whether all other dictionaries are as they were.
func (w *world) has(t *testing.T, row, cell int, k, v api.Object, before kept) {
	t.Helper()
	w.check(t, "P16.3: Def and Store")
	if cell > 0 {
		if x, e := dict.Get(w.h, dictOf(cell), k); x != v || e != api.OK {
			t.Errorf("P16.3: row %d: cell %d has %v, %d, want %v", row, cell, x, e, v)
		}
	}
	for n := range w.books {
		now, _ := w.h.Items(dictOf(n))
		then, _ := before.h.Items(dictOf(n))
		if n != cell && !slices.Equal(now, then) {
			t.Errorf("P16.3: row %d: cell %d changed, not cell %d", row, n, cell)
		}
	}
}

// TestStoreOfOtherExec: the lowest dictionary is the same one higher up, whatever its Exec there.
func TestStoreOfOtherExec(t *testing.T) {
	for _, lowest := range []api.Object{dictOf(open), run(dictOf(open))} {
		for _, higher := range []api.Object{dictOf(open), run(dictOf(open))} {
			w := mixed(t)
			w.become(t, []api.Object{lowest, dictOf(full), higher, dictOf(user)})
			if e := w.store(t, num(1), num(5)); e != api.OK {
				t.Errorf("P16.3: Store: %d", e)
			}
			if _, d, _ := w.s.Find(num(1)); d != dictOf(user) {
				t.Errorf("P16.3: stored in %v", d)
			}
			w.check(t, "P16.3: Store")
		}
	}
}

// TestHiding: each dictionary hides the lower ones, and End brings them back one by one.
func TestHiding(t *testing.T) {
	w := mixed(t)
	names := []string{"add", "pop", "mine", "setscreen"}
	for n := range 18 {
		w.begin(t, w.dict(t, 4))
		for i, s := range names {
			// Every dictionary has the first name, every second one the second name, and so on.
			if n%(i+1) == 0 {
				w.def(t, name(s), num(100*n+i))
			}
		}
	}
	for n := 17; n >= 0; n-- {
		for i, s := range names {
			last := n - n%(i+1)
			if v, d, e := w.s.Find(name(s)); v != num(100*last+i) || d != w.stack[2+last] || e != api.OK {
				t.Errorf("P16.4: %d: Find(/%s): %v, %v, %d, want %d", n, s, v, d, e, 100*last+i)
			}
		}
		w.end(t)
		w.check(t, "P16.4: End")
	}
	if v, d, e := w.s.Find(name("add")); v != operator(11) || d != dictOf(system) || e != api.OK {
		t.Errorf("P16.4: Find(/add): %v, %v, %d", v, d, e)
	}
}

// TestAfterEnd: what was found before Begin is found after End, if only the begun dictionary changed.
func TestAfterEnd(t *testing.T) {
	keys := []api.Object{name("add"), name("abc"), num(1), name("exch"), name("nothing"), nothing(), {}}
	for _, l := range stacks() {
		w := mixed(t)
		w.become(t, l)
		type found struct {
			v, d api.Object
			e    api.Errno
		}
		look := func() (all []found) {
			for _, k := range keys {
				v, d, e := w.find(t, k)
				all = append(all, found{v, d, e})
			}
			return all
		}
		before := look()
		w.begin(t, w.dict(t, 10))
		for i, k := range keys {
			w.def(t, k, num(-i))
			w.find(t, k)
		}
		w.begin(t, w.dict(t, 10))
		for i, k := range keys {
			w.store(t, k, num(-10-i))
			w.find(t, k)
		}
		w.end(t)
		w.end(t)
		if after := look(); !slices.Equal(after, before) {
			t.Errorf("P16.4: on %v: %v, want %v", l, after, before)
		}
		w.check(t, "P16.4: after End")
	}
}

// TestSharedDict: a dictionary that is on the stack several times is one dictionary.
func TestSharedDict(t *testing.T) {
	w := mixed(t)
	for range 18 {
		w.begin(t, dictOf(open))
	}
	w.def(t, name("new"), num(5))
	for depth := 20; depth > 2; depth-- {
		if v, d, e := w.find(t, name("new")); v != num(5) || d != dictOf(open) || e != api.OK {
			t.Errorf("P16.4: depth %d: %v, %v, %d", depth, v, d, e)
		}
		w.end(t)
	}
	if _, _, e := w.find(t, name("new")); e != api.ErrName {
		t.Errorf("P16.4: %d", e)
	}
}

// TestChangedBelow: what layer 12 changes in a dictionary of the stack is found.
func TestChangedBelow(t *testing.T) {
	w := mixed(t)
	w.begin(t, dictOf(open))
	dict.Set(w.h, dictOf(open), name("add"), num(6))
	if v, _, e := w.s.Find(name("add")); v != num(6) || e != api.OK {
		t.Errorf("P16.3: %v, %d", v, e)
	}
	dict.Drop(w.h, dictOf(open), name("add"))
	dict.Drop(w.h, dictOf(open), name("abc"))
	if v, d, e := w.s.Find(name("add")); v != operator(11) || d != dictOf(system) || e != api.OK {
		t.Errorf("P16.3: %v, %v, %d", v, d, e)
	}
	if _, _, e := w.s.Find(name("abc")); e != api.ErrName {
		t.Errorf("P16.3: %d", e)
	}
}

// TestHeapBecomes: the heap may become one without some dictionaries of the stack; these have no keys then, and can't be set.
func TestHeapBecomes(t *testing.T) {
	w := mixed(t)
	before := w.keep()
	first := w.dict(t, 3, pair{name("add"), num(1)})
	w.begin(t, dictOf(open))
	w.begin(t, first)
	w.begin(t, w.dict(t, 3, pair{name("sub"), num(2)}))
	w.def(t, name("abc"), num(3))
	after := w.keep()
	w.bringBack(before)
	for _, c := range []struct {
		k, v, d api.Object
		e       api.Errno
	}{{name("add"), operator(11), dictOf(system), api.OK}, {name("abc"), num(70), dictOf(open), api.OK}, {name("x"), api.Object{}, api.Object{}, api.ErrName}} {
		if v, d, e := w.find(t, c.k); v != c.v || d != c.d || e != c.e {
			t.Errorf("P16.3: Find(%v): %v, %v, %d", c.k, v, d, e)
		}
	}
	for _, k := range []api.Object{name("add"), name("x")} {
		if e, f := w.def(t, k, num(1)), w.store(t, k, num(1)); e != api.ErrArg || f != api.ErrArg {
			t.Errorf("P16.3: %v: Def %d, Store %d", k, e, f)
		}
	}
	if e := w.def(t, nothing(), num(1)); e != api.ErrArg {
		t.Errorf("P16.3: Def of Null: %d", e)
	}
	if e := w.store(t, nothing(), num(1)); e != api.ErrType {
		t.Errorf("P16.3: Store of Null: %d", e)
	}
	if e := w.store(t, name("abc"), num(7)); e != api.OK {
		t.Errorf("P16.3: Store: %d", e)
	}
	if e := w.begin(t, first); e != api.ErrArg {
		t.Errorf("P16.2: Begin: %d", e)
	}
	if e := w.become(t, w.s.Dicts()); e != api.ErrArg {
		t.Errorf("P16.2: Become: %d", e)
	}
	w.check(t, "P16.3: the heap became an older one")
	w.bringBack(after)
	w.find(t, name("abc"))
	w.find(t, name("sub"))
	w.check(t, "P16.3: the heap became a newer one")
}

// TestStoreErrorsFirst: the error of the key comes ahead of that of a top dictionary that is not in the heap.
func TestStoreErrorsFirst(t *testing.T) {
	w := bare()
	w.start(t)
	before := w.keep()
	w.begin(t, w.dict(t, 3))
	w.bringBack(before)
	for _, c := range []struct {
		k    api.Object
		want api.Errno
	}{{nothing(), api.ErrType}, {api.Object{}, api.ErrArg}, {name("new"), api.ErrArg}, {name("add"), api.ErrArg}} {
		if e := w.store(t, c.k, num(1)); e != c.want {
			t.Errorf("P16.3: Store(%v): %d, want %d", c.k, e, c.want)
		}
		if e := w.def(t, c.k, num(1)); e != api.ErrArg {
			t.Errorf("P16.3: Def(%v): %d", c.k, e)
		}
	}
	w.check(t, "P16.3: Store that fails")
}

// TestRandom makes many calls with few keys, so that many of them find one.
func TestRandom(t *testing.T) {
	r := rand.New(rand.NewSource(16))
	all := objects()
	for range 60 {
		w := mixed(t)
		var olds []kept
		keys := []api.Object{name("abc"), name("pop"), name("exch"), name("dup"), num(1), num(3), {Kind: api.String, N: 2, Len: 3}, nothing()}
		for range 5 {
			keys = append(keys, all[r.Intn(len(all))], name(strings.Fields(operators)[r.Intn(162)]))
		}
		randomDict := func() api.Object {
			d := dictOf(5 + r.Intn(w.h.Cells()-5))
			d.Exec = r.Intn(2) == 0
			if r.Intn(20) == 0 {
				d = all[r.Intn(len(all))]
			}
			return d
		}
		for step := range 300 {
			k, v := keys[r.Intn(len(keys))], keys[r.Intn(len(keys))]
			switch r.Intn(16) {
			case 0, 1, 2:
				w.begin(t, randomDict())
			case 3, 4:
				w.end(t)
			case 5:
				if r.Intn(4) == 0 {
					var l []api.Object
					for range r.Intn(22) {
						l = append(l, randomDict())
					}
					w.become(t, l)
				}
			case 6, 7, 8:
				w.def(t, k, v)
			case 9, 10, 11:
				w.store(t, k, v)
			case 12:
				w.dict(t, r.Intn(8))
			case 13:
				if r.Intn(10) == 0 {
					if d := randomDict(); w.book(d) != nil {
						w.lock(d)
					}
				} else if len(olds) < 3 {
					olds = append(olds, w.keep())
				} else if r.Intn(5) == 0 {
					w.bringBack(olds[r.Intn(len(olds))])
				}
			default:
				w.find(t, k)
			}
			if step%30 == 0 {
				w.check(t, "P16.4: random calls")
			}
		}
		w.check(t, "P16.4: random calls, at the end")
	}
}
