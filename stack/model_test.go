package stack

import (
	"math"
	"math/big"
	"slices"
	"strings"
	"testing"

	"tympan/api"
)

// desk is a stack, and its operands by the chapter said a second time, with the limits written out.
type desk struct {
	s    *Stack
	want []api.Object // the lowest one first
}

func num(n int) api.Object { return api.Object{Kind: 3, N: n} }

func name(s string) api.Object { return api.Object{Kind: 5, S: s} }

func mark() api.Object { return api.Object{Kind: 6} }

func run(o api.Object) api.Object {
	o.Exec = true
	return o
}

// nums returns different Ints.
func nums(n int) []api.Object {
	var l []api.Object
	for i := range n {
		l = append(l, num(1000+i))
	}
	return l
}

// of returns a desk with the operands of l, pushed one by one.
func of(t *testing.T, l []api.Object) *desk {
	t.Helper()
	d := &desk{s: New()}
	for _, o := range l {
		d.push(t, o)
	}
	return d
}

// check compares the operands with the model, by all calls that only look.
func (d *desk) check(t *testing.T, what string) {
	t.Helper()
	if n := d.s.Len(); n != len(d.want) {
		t.Fatalf("%s: Len: %d, want %d", what, n, len(d.want))
	}
	if l := d.s.Items(); !slices.Equal(l, d.want) {
		t.Fatalf("%s: Items: %v, want %v", what, l, d.want)
	}
	for i, o := range d.want {
		if got, e := d.s.Peek(len(d.want) - 1 - i); got != o || e != 0 {
			t.Fatalf("%s: Peek(%d): %v, %d, want %v", what, len(d.want)-1-i, got, e, o)
		}
	}
	// No more is kept than the calls need: nothing of what was removed.
	if spare := d.s.items[d.s.Len():cap(d.s.items)]; slices.ContainsFunc(spare, func(o api.Object) bool { return o != api.Object{} }) {
		t.Fatalf("%s: behind the operands there is %v", what, spare)
	}
}

func (d *desk) push(t *testing.T, o api.Object) {
	t.Helper()
	e, f := d.s.Push(o), api.Errno(0)
	switch {
	case !isValid(o):
		f = 1
	case len(d.want) == 200:
		f = 8
	default:
		d.want = append(d.want, o)
	}
	if e != f {
		t.Fatalf("P14.1: Push(%v) on %d operands: %d, want %d", o, len(d.want), e, f)
	}
	d.check(t, "P14.1: Push")
}

func (d *desk) pop(t *testing.T) {
	t.Helper()
	o, e := d.s.Pop()
	want, f := api.Object{}, api.Errno(7)
	if n := len(d.want); n > 0 {
		want, f, d.want = d.want[n-1], 0, d.want[:n-1]
	}
	if o != want || e != f {
		t.Fatalf("P14.1: Pop: %v, %d, want %v, %d", o, e, want, f)
	}
	d.check(t, "P14.1: Pop")
}

func (d *desk) peek(t *testing.T, i int) {
	t.Helper()
	o, e := d.s.Peek(i)
	want, f := api.Object{}, api.Errno(0)
	switch {
	case i < 0:
		f = 2
	case len(d.want) <= i:
		f = 7
	default:
		up := slices.Clone(d.want)
		slices.Reverse(up)
		want = up[i]
	}
	if o != want || e != f {
		t.Fatalf("P14.1: Peek(%d) of %d operands: %v, %d, want %v, %d", i, len(d.want), o, e, want, f)
	}
	d.check(t, "P14.1: Peek")
}

func (d *desk) dup(t *testing.T, n int) {
	t.Helper()
	e, f := d.s.Dup(n), api.Errno(0)
	old := len(d.want)
	switch {
	case n < 0:
		f = 2
	case old < n:
		f = 7
	case n > 200-old:
		f = 8
	default:
		for i := range n {
			d.want = append(d.want, d.want[old-n+i])
		}
	}
	if e != f {
		t.Fatalf("P14.2: Dup(%d) of %d operands: %d, want %d", n, old, e, f)
	}
	d.check(t, "P14.2: Dup")
}

func (d *desk) roll(t *testing.T, n, j int) {
	t.Helper()
	e, f := d.s.Roll(n, j), api.Errno(0)
	switch {
	case n < 0:
		f = 2
	case len(d.want) < n:
		f = 7
	default:
		d.want = rolled(d.want, n, j)
	}
	if e != f {
		t.Fatalf("P14.2: Roll(%d, %d) of %d operands: %d, want %d", n, j, len(d.want), e, f)
	}
	d.check(t, "P14.2: Roll")
}

// rolled moves each of the last n of l by j, counted round in a circle of n.
func rolled(l []api.Object, n, j int) []api.Object {
	low := len(l) - n
	moved := slices.Clone(l)
	for p := range n {
		q := new(big.Int).Add(big.NewInt(int64(p)), big.NewInt(int64(j)))
		q.Mod(q, big.NewInt(int64(n)))
		moved[low+int(q.Int64())] = l[low+p]
	}
	return moved
}

func (d *desk) toMark(t *testing.T) {
	t.Helper()
	n, e := d.s.ToMark()
	want, f := 0, api.Errno(10)
	for i, o := range d.want {
		if o == mark() || o == run(mark()) {
			want, f = len(d.want[i+1:]), 0
		}
	}
	if n != want || e != f {
		t.Fatalf("P14.3: ToMark of %v: %d, %d, want %d, %d", d.want, n, e, want, f)
	}
	d.check(t, "P14.3: ToMark")
}

func (d *desk) clear(t *testing.T) {
	t.Helper()
	d.s.Clear()
	d.want = nil
	d.check(t, "P14.3: Clear")
}

func (d *desk) become(t *testing.T, l []api.Object) {
	t.Helper()
	kept := slices.Clone(l)
	e, f := d.s.Become(l), api.Errno(0)
	switch {
	case slices.ContainsFunc(l, func(o api.Object) bool { return !isValid(o) }):
		f = 1
	case len(l) > 200:
		f = 8
	default:
		d.want = slices.Clone(l)
	}
	if e != f {
		t.Fatalf("P14.3: Become of %d objects: %d, want %d", len(l), e, f)
	}
	if !slices.Equal(l, kept) {
		t.Fatalf("P14.3: Become changed what it was handed: %v, want %v", l, kept)
	}
	d.check(t, "P14.3: Become")
}

// isValid is what layer 10 says of an object.
func isValid(o api.Object) bool {
	numbers := func(low, high int) bool {
		return low <= o.N && o.N <= high && o.At == 0 && o.Len == 0 && o.S == ""
	}
	small := func(n int) bool { return 0 <= n && n <= 40000 }
	switch o.Kind {
	case 1, 6:
		return numbers(0, 0)
	case 2:
		return numbers(0, 1)
	case 3:
		return numbers(-2147483647, 2147483647)
	case 4:
		return numbers(-1073741823, 1073741823)
	case 5:
		return o.N == 0 && o.At == 0 && o.Len == 0 && len(o.S) <= 100
	case 7:
		return numbers(1, 200)
	case 8, 9:
		return small(o.N) && small(o.At) && small(o.Len) && o.S == ""
	case 10:
		return numbers(0, 40000)
	case 11:
		return numbers(1, 2147483647)
	}
	return false
}

// extremes are the numbers at which a sum or a product would overflow.
func extremes() []int {
	return []int{math.MinInt, math.MinInt + 1, math.MinInt + 2, -1 << 32, 1 << 32, math.MaxInt - 199, math.MaxInt - 2, math.MaxInt - 1, math.MaxInt}
}

// fields are what fields of objects are set to.
func fields() []int {
	return append(extremes(), -1<<31, 1-1<<31, -1<<30, 1-1<<30, -201, -200, -2, -1, 0, 1, 2, 3, 4, 5, 6, 7, 8, 9, 10, 11, 12, 199, 200, 201, 39999, 40000, 40001, 1<<30-1, 1<<30, 1<<31-1, 1<<31)
}

// objects returns objects of every kind and of kinds that are none, with every number in every field.
func objects() []api.Object {
	var l []api.Object
	for _, kind := range append(fields(), 1<<32+6, 256+6) {
		for _, v := range fields() {
			l = append(l, api.Object{Kind: kind, N: v}, api.Object{Kind: kind, N: 1, At: v}, api.Object{Kind: kind, Len: v}, api.Object{Kind: kind, N: v, At: v, Len: v}, api.Object{Kind: kind, N: v, S: "s"})
		}
		for _, s := range []string{"\x00", "mark", strings.Repeat("n", 100), strings.Repeat("n", 101)} {
			l = append(l, api.Object{Kind: kind, S: s}, api.Object{Kind: kind, N: 1, S: s})
		}
	}
	for _, o := range l {
		l = append(l, run(o))
	}
	return l
}

// kinds returns valid objects of every kind, with Exec not set and set.
func kinds() []api.Object {
	l := []api.Object{{Kind: 1}, {Kind: 2}, {Kind: 2, N: 1}, num(0), num(7), num(-2147483647), {Kind: 4, N: 98304}, name(""), name("mark"), mark(), {Kind: 7, N: 200}, {Kind: 8, N: 2, At: 3, Len: 4}, {Kind: 9, N: 2, At: 3, Len: 4}, {Kind: 10, N: 5}, {Kind: 11, N: 1}}
	for _, o := range l {
		l = append(l, run(o))
	}
	return l
}

// faulty returns objects that are not valid.
func faulty() []api.Object {
	return []api.Object{{}, {Exec: true}, {Kind: 12}, {Kind: -1}, {Kind: 1, N: 1}, {Kind: 2, N: 2}, num(1 << 31), {Kind: 4, N: 1 << 30}, name(strings.Repeat("n", 101)), {Kind: 6, Len: 1}, {Kind: 7}, {Kind: 7, N: 201}, {Kind: 8, At: -1}, {Kind: 9, Len: 40001}, {Kind: 10, N: -1}, {Kind: 11}, {Kind: 11, N: 1, S: "s"}}
}
