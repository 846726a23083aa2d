package stack

import (
	"math/rand"
	"slices"
	"testing"

	"tympan/api"
)

// TestNil: a nil *Stack comes before every other error.
func TestNil(t *testing.T) {
	var none *Stack
	for _, o := range objects() {
		if e := none.Push(o); e != api.ErrArg {
			t.Fatalf("P14.1: Push(%v): %d", o, e)
		}
	}
	if o, e := none.Pop(); o != (api.Object{}) || e != api.ErrArg {
		t.Errorf("P14.1: Pop: %v, %d", o, e)
	}
	for _, i := range fields() {
		if o, e := none.Peek(i); o != (api.Object{}) || e != api.ErrArg {
			t.Errorf("P14.1: Peek(%d): %v, %d", i, o, e)
		}
		if e := none.Dup(i); e != api.ErrArg {
			t.Errorf("P14.2: Dup(%d): %d", i, e)
		}
		for _, j := range fields() {
			if e := none.Roll(i, j); e != api.ErrArg {
				t.Errorf("P14.2: Roll(%d, %d): %d", i, j, e)
			}
		}
	}
	if n := none.Len(); n != 0 {
		t.Errorf("P14.1: Len: %d", n)
	}
	if n, e := none.ToMark(); n != 0 || e != api.ErrArg {
		t.Errorf("P14.3: ToMark: %d, %d", n, e)
	}
	none.Clear()
	if l := none.Items(); len(l) != 0 {
		t.Errorf("P14.3: Items: %v", l)
	}
	for _, l := range [][]api.Object{nil, {}, kinds(), faulty(), nums(200), nums(201)} {
		if e := none.Become(l); e != api.ErrArg {
			t.Errorf("P14.3: Become of %d objects: %d", len(l), e)
		}
	}
}

// TestPush pushes every object on stacks with and without room.
func TestPush(t *testing.T) {
	for _, size := range []int{0, 1, 2, 199, 200} {
		d := of(t, nums(size))
		list := objects()
		if size > 2 {
			list = append(kinds(), faulty()...)
		}
		for _, o := range list {
			d.push(t, o)
			if len(d.want) > size {
				d.pop(t)
			}
		}
	}
	if e := of(t, nums(200)).s.Push(api.Object{}); e != api.ErrArg {
		t.Errorf("P14.1: an object that is not valid on a full stack: %d", e)
	}
	if e := of(t, nums(200)).s.Push(num(1)); e != api.ErrOver {
		t.Errorf("P14.1: one operand too many: %d", e)
	}
}

// TestPop empties stacks, tries once more, and fills them again.
func TestPop(t *testing.T) {
	for _, l := range [][]api.Object{nil, {num(5)}, nums(2), kinds(), nums(200)} {
		d := of(t, l)
		for range len(l) + 2 {
			d.pop(t)
		}
		for _, o := range kinds() {
			d.push(t, o)
			d.pop(t)
			d.pop(t)
			d.push(t, o)
		}
	}
	if o, e := New().Pop(); o != (api.Object{}) || e != api.ErrUnder {
		t.Errorf("P14.1: Pop of an empty stack: %v, %d", o, e)
	}
}

func TestPeek(t *testing.T) {
	for _, l := range [][]api.Object{nil, {num(5)}, nums(2), kinds(), nums(199), nums(200)} {
		d := of(t, l)
		for _, i := range append(fields(), len(l)-1, len(l), len(l)+1) {
			d.peek(t, i)
		}
	}
}

// TestDup tries every number of operands, next to the room that is left too.
func TestDup(t *testing.T) {
	for _, size := range []int{0, 1, 2, 3, 5, 66, 67, 99, 100, 101, 102, 150, 198, 199, 200} {
		for _, n := range append(fields(), size-1, size, size+1, 199-size, 200-size, 201-size) {
			d := of(t, nil)
			d.become(t, nums(size))
			d.dup(t, n)
		}
	}
	d := of(t, kinds())
	d.dup(t, len(kinds()))
	d.dup(t, 3)
}

// TestDupOrder: with several errors at once, the first one that the chapter names is returned.
func TestDupOrder(t *testing.T) {
	for _, one := range []struct {
		size, n int
		want    api.Errno
	}{
		{200, -1, api.ErrRange}, {0, -1, api.ErrRange}, {200, 201, api.ErrUnder}, {101, 102, api.ErrUnder},
		{101, 101, api.ErrOver}, {100, 101, api.ErrUnder}, {100, 100, api.OK}, {200, 1, api.ErrOver},
		{199, 2, api.ErrOver}, {199, 1, api.OK}, {200, 0, api.OK}, {0, 0, api.OK}, {0, 1, api.ErrUnder},
	} {
		s := New()
		s.Become(nums(one.size))
		if e := s.Dup(one.n); e != one.want {
			t.Errorf("P14.2: Dup(%d) of %d operands: %d, want %d", one.n, one.size, e, one.want)
		}
	}
}

// TestRoll holds every n of small stacks, and some of great ones, against the model.
func TestRoll(t *testing.T) {
	for _, size := range []int{0, 1, 2, 3, 4, 5, 7, 100, 199, 200} {
		d := of(t, nums(size))
		for _, n := range append(extremes(), -3, -1, 0, 1, 2, 3, 4, 6, size-1, size, size+1, 200, 201) {
			for _, j := range append(extremes(), -3*n, -2*n-1, -2*n, -n-1, -n, 1-n, -3, -2, -1, 0, 1, 2, 3, n-1, n, n+1, 2*n-1, 2*n, 2*n+1, 1000*n) {
				d.roll(t, n, j)
			}
		}
	}
}

// TestRollExample has the example of the chapter and its neighbours, and nothing below the operands moves.
func TestRollExample(t *testing.T) {
	for _, one := range []struct {
		n, j int
		want []int
	}{
		{3, 1, []int{9, 8, 3, 1, 2}}, {3, -1, []int{9, 8, 2, 3, 1}}, {3, 0, []int{9, 8, 1, 2, 3}},
		{3, 3, []int{9, 8, 1, 2, 3}}, {3, -3, []int{9, 8, 1, 2, 3}}, {2, 1, []int{9, 8, 1, 3, 2}},
		{1, 1, []int{9, 8, 1, 2, 3}}, {0, 1, []int{9, 8, 1, 2, 3}}, {5, 2, []int{2, 3, 9, 8, 1}},
		{5, -2, []int{1, 2, 3, 9, 8}}, {4, 6, []int{9, 2, 3, 8, 1}},
	} {
		s := New()
		for _, n := range []int{9, 8, 1, 2, 3} {
			s.Push(num(n))
		}
		var want []api.Object
		for _, n := range one.want {
			want = append(want, num(n))
		}
		if e := s.Roll(one.n, one.j); e != api.OK || !slices.Equal(s.Items(), want) {
			t.Errorf("P14.2: Roll(%d, %d): %v, %d, want %v", one.n, one.j, s.Items(), e, want)
		}
	}
}

// TestRollRound: n operands rolled n times by one, and by j and back, are as they were.
func TestRollRound(t *testing.T) {
	l := append(kinds(), nums(200-len(kinds()))...)
	s := New()
	s.Become(l)
	for n := range len(l) + 1 {
		for _, step := range []int{1, -1} {
			for range n {
				if e := s.Roll(n, step); e != api.OK {
					t.Fatalf("P14.4: Roll(%d, %d): %d", n, step, e)
				}
			}
			if !slices.Equal(s.Items(), l) {
				t.Fatalf("P14.4: %d operands rolled %d times by %d: %v", n, n, step, s.Items())
			}
		}
		for _, j := range fields() {
			// The least int has no opposite: it is one less than the opposite of the greatest one.
			if s.Roll(n, j) != api.OK || s.Roll(n, -(j+1)) != api.OK || s.Roll(n, 1) != api.OK {
				t.Fatalf("P14.4: Roll(%d, %d) fails", n, j)
			}
			if !slices.Equal(s.Items(), l) {
				t.Fatalf("P14.4: %d operands rolled by %d and back: %v", n, j, s.Items())
			}
		}
	}
}

// TestToMark has marks at all places of small stacks, among objects that look like marks.
func TestToMark(t *testing.T) {
	marks := []api.Object{mark(), run(mark())}
	others := []api.Object{name("mark"), {Kind: 1}, run(name("mark")), {Kind: 7, N: 6}, num(6), {Kind: 11, N: 6}}
	for size := range len(others) + 1 {
		for places := range 1 << size {
			l := slices.Clone(others[:size])
			for i := range size {
				if places>>i&1 == 1 {
					l[i] = marks[(places+i)%2]
				}
			}
			of(t, l).toMark(t)
		}
	}
	for _, at := range []int{0, 1, 100, 198, 199} {
		l := nums(200)
		l[at] = mark()
		d := of(t, nil)
		d.become(t, l)
		d.toMark(t)
	}
	of(t, nums(200)).toMark(t)
	if n, e := New().ToMark(); n != 0 || e != api.ErrMark {
		t.Errorf("P14.3: ToMark of an empty stack: %d, %d", n, e)
	}
}

func TestClear(t *testing.T) {
	for _, l := range [][]api.Object{nil, kinds(), nums(200)} {
		d := of(t, l)
		d.clear(t)
		d.clear(t)
		d.pop(t)
		d.push(t, num(5))
		d.push(t, mark())
		d.dup(t, 2)
		d.toMark(t)
	}
}

// spoil overwrites l, its spare capacity too.
func spoil(l []api.Object) {
	l = l[:cap(l)]
	for i := range l {
		l[i] = api.Object{Kind: api.Name, S: "spoilt"}
	}
}

// TestItems: the returned slice and the stack do not share memory, nor do two returned slices.
func TestItems(t *testing.T) {
	if l := New().Items(); len(l) != 0 {
		t.Errorf("P14.3: Items of a new stack: %v", l)
	}
	for size := range 201 {
		d := &desk{s: New()}
		d.become(t, nums(size))
		first, second := d.s.Items(), d.s.Items()
		spoil(first)
		if !slices.Equal(second, nums(size)) {
			t.Errorf("P14.3: two results of Items share memory")
		}
		d.check(t, "P14.3: a change of the returned slice")
		if size < 200 {
			d.push(t, num(5))
			d.check(t, "P14.3: a change of the returned slice, and a Push")
			spoil(second)
			d.check(t, "P14.3: a change of the returned slice after a Push")
		}
	}
}

// TestItemsLater: a later change of the stack does not change the slice that Items returned.
func TestItemsLater(t *testing.T) {
	for i, change := range changes() {
		for _, size := range []int{1, 3, 4, 8, 50, 99} {
			s := New()
			for _, o := range nums(size) {
				s.Push(o)
			}
			l := s.Items()
			change(s)
			change(s)
			if !slices.Equal(l, nums(size)) {
				t.Errorf("P14.3: change %d of %d operands changed the returned slice: %v", i, size, l)
			}
			if extra := l[len(l):cap(l)]; slices.ContainsFunc(extra, func(o api.Object) bool { return o != api.Object{} }) {
				t.Errorf("P14.3: change %d of %d operands changed what is behind the returned slice: %v", i, size, extra)
			}
		}
	}
}

// changes are calls that change a stack.
func changes() []func(s *Stack) {
	return []func(s *Stack){
		func(s *Stack) { s.Push(num(5)) },
		func(s *Stack) { s.Pop() },
		func(s *Stack) { s.Pop(); s.Push(num(5)) },
		func(s *Stack) { s.Dup(1); s.Dup(2) },
		func(s *Stack) { s.Roll(s.Len(), 1) },
		func(s *Stack) { s.Clear(); s.Push(num(5)) },
		func(s *Stack) { s.Become(nil); s.Push(num(5)) },
		func(s *Stack) { s.Become([]api.Object{mark()}) },
	}
}

func TestBecome(t *testing.T) {
	for _, size := range []int{0, 3, 200} {
		for _, l := range [][]api.Object{nil, {}, kinds(), nums(1), nums(199), nums(200), nums(201), nums(400)} {
			d := of(t, nums(size))
			d.become(t, l)
			d.push(t, mark())
		}
		for _, bad := range faulty() {
			for _, length := range []int{1, 2, 5, 199, 200, 201, 300} {
				for _, at := range []int{0, length / 2, length - 1} {
					l := nums(length)
					l[at] = bad
					d := of(t, nil)
					d.become(t, nums(size))
					d.become(t, l)
				}
			}
		}
		d := of(t, nums(size))
		for _, o := range objects() {
			d.become(t, []api.Object{num(1), o})
		}
	}
}

// TestBecomeKeepsNothing: the stack and the slice that was handed to Become do not share memory.
func TestBecomeKeepsNothing(t *testing.T) {
	for i, change := range changes() {
		for _, size := range []int{0, 1, 3, 99} {
			whole := nums(size + 200)
			d := of(t, nil)
			d.become(t, whole[:size])
			change(d.s)
			if !slices.Equal(whole, nums(size+200)) {
				t.Errorf("P14.3: change %d of %d operands changed the handed slice, or what is behind it", i, size)
			}
			d.become(t, whole[:size])
			spoil(whole)
			d.check(t, "P14.3: a change of the handed slice")
		}
	}
}

// TestApart: stacks share no state, also when they were handed the same objects.
func TestApart(t *testing.T) {
	for i, change := range changes() {
		for _, l := range [][]api.Object{nil, nums(3), nums(99)} {
			d, other := of(t, l), of(t, l)
			d.become(t, other.s.Items())
			change(other.s)
			other.s.Push(name("other"))
			d.check(t, "P14.4: a change of another stack")
			if len(l) > 0 && slices.Equal(d.s.Items(), other.s.Items()) {
				t.Errorf("P14.4: change %d changed nothing", i)
			}
		}
	}
}

// TestFailures: whatever the stack, a call that returns an error changes nothing (the model checks it).
func TestFailures(t *testing.T) {
	for _, l := range [][]api.Object{nil, {num(5)}, kinds(), nums(150), nums(200)} {
		d := of(t, l)
		for _, o := range faulty() {
			d.push(t, o)
			d.become(t, []api.Object{num(1), o})
		}
		d.become(t, nums(201))
		for _, n := range append(extremes(), -1, 201) {
			d.dup(t, n)
			d.roll(t, n, 1)
			d.peek(t, n)
		}
		d.dup(t, len(l)+1)
		d.roll(t, len(l)+1, 1)
		if !slices.Equal(d.s.Items(), l) {
			t.Errorf("P14.4: calls that fail changed %v to %v", l, d.s.Items())
		}
	}
}

// TestSequences makes random calls, on stacks that are often nearly empty and often nearly full.
func TestSequences(t *testing.T) {
	r := rand.New(rand.NewSource(14))
	some := append(kinds(), kinds()...)
	some = append(some, faulty()...)
	for range 60 {
		d := of(t, nil)
		for range 200 {
			near := len(d.want) + r.Intn(4) - 2
			switch r.Intn(14) {
			case 0, 1, 2, 3:
				d.push(t, some[r.Intn(len(some))])
			case 4, 5:
				d.pop(t)
			case 6:
				d.peek(t, r.Intn(near+4)-1)
			case 7:
				d.dup(t, r.Intn(near+4)-1)
			case 8:
				d.dup(t, 200-len(d.want)+r.Intn(3)-1)
			case 9, 10:
				d.roll(t, r.Intn(near+4)-1, r.Intn(500)-250)
			case 11:
				d.toMark(t)
			case 12:
				if r.Intn(8) == 0 {
					d.clear(t)
				}
			case 13:
				if r.Intn(4) == 0 {
					d.become(t, nums(r.Intn(210)))
				}
			}
		}
	}
}
