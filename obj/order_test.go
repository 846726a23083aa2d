package obj

import (
	"fmt"
	"math"
	"math/big"
	"slices"
	"testing"

	"tympan/api"
)

func told(o api.Object) string {
	return fmt.Sprintf("kind %d, exec %v, N %d, At %d, Len %d, S %.20q of %d bytes", o.Kind, o.Exec, o.N, o.At, o.Len, o.S, len(o.S))
}

func integer(n int) api.Object { return api.Object{Kind: api.Int, N: n} }

func fixed(n int) api.Object { return api.Object{Kind: api.Fix, N: n} }

// number returns what a number represents, and nil for all other objects.
func number(o api.Object) *big.Rat {
	switch {
	case !valid(o):
		return nil
	case o.Kind == api.Int:
		return big.NewRat(int64(o.N), 1)
	case o.Kind == api.Fix:
		return big.NewRat(int64(o.N), 65536)
	default:
		return nil
	}
}

func checkNum(t *testing.T, o api.Object, v int, ok bool) {
	t.Helper()
	for _, o.Exec = range []bool{false, true} {
		if gotV, gotOK := Num(o); gotV != v || gotOK != ok {
			t.Errorf("P10.2: Num(%s) = %d, %v, want %d, %v", told(o), gotV, gotOK, v, ok)
		}
	}
}

// P10.2: the Ints that a valid fix represents, all of them, and the next ones.
func TestNumOfInts(t *testing.T) {
	for n := -16383; n <= 16383; n++ {
		checkNum(t, integer(n), n*65536, true)
	}
	for n := 16384; n < 16500; n++ {
		checkNum(t, integer(n), 0, false)
		checkNum(t, integer(-n), 0, false)
	}
	for _, n := range values() {
		if n < -16383 || n > 16383 {
			checkNum(t, integer(n), 0, false)
		}
	}
	// Products of these with 65536 wrap round to valid fixes.
	for _, n := range []int{1 << 48, 1<<48 + 1, 3 << 48, 1 << 62, -1 << 48, -1<<48 + 5, 1 << 32, 1 << 47} {
		checkNum(t, integer(n), 0, false)
	}
}

// P10.2: Fixes, valid and not.
func TestNumOfFixes(t *testing.T) {
	for n := -70000; n <= 70000; n++ {
		checkNum(t, fixed(n), n, true)
	}
	for _, n := range values() {
		if n < -api.MaxFix || n > api.MaxFix {
			checkNum(t, fixed(n), 0, false)
		} else {
			checkNum(t, fixed(n), n, true)
		}
	}
}

// P10.2: Num asks for the Kind and N alone, so that fields that an Int and a Fix do not use make no difference.
func TestNumOfUnusedFields(t *testing.T) {
	checkNum(t, api.Object{Kind: api.Int, N: 2, At: 1}, 131072, true)
	checkNum(t, api.Object{Kind: api.Int, N: -3, S: "x"}, -196608, true)
	checkNum(t, api.Object{Kind: api.Int, N: 16384, Len: 1}, 0, false)
	checkNum(t, api.Object{Kind: api.Fix, N: 7, Len: math.MinInt}, 7, true)
	checkNum(t, api.Object{Kind: api.Fix, N: api.MaxFix + 1, S: "x"}, 0, false)
}

// P10.2: objects of other kinds have no number, whatever their N.
func TestNumOfOtherKinds(t *testing.T) {
	kinds := others()
	for _, s := range shapes() {
		if s.kind != api.Int && s.kind != api.Fix {
			kinds = append(kinds, s.kind)
		}
	}
	for _, kind := range kinds {
		for _, n := range values() {
			checkNum(t, api.Object{Kind: kind, N: n}, 0, false)
		}
		checkNum(t, api.Object{Kind: kind, N: 1, S: "1"}, 0, false)
	}
}

func checkPair(t *testing.T, a, b api.Object, less, ok, same bool) {
	t.Helper()
	if gotLess, gotOK := Less(a, b); gotLess != less || gotOK != ok {
		t.Errorf("P10.2: Less(%s; %s) = %v, %v, want %v, %v", told(a), told(b), gotLess, gotOK, less, ok)
	}
	if got := Same(a, b); got != same {
		t.Errorf("P10.3: Same(%s; %s) = %v, want %v", told(a), told(b), got, same)
	}
}

// P10.2, P10.3: numbers that rise from one row to the next; those of one row are the same.
func TestOrderRows(t *testing.T) {
	rows := [][]api.Object{
		{integer(-api.MaxInt)}, {integer(-api.MaxInt + 1)}, {integer(-api.MaxFix)}, {integer(-65536)}, {integer(-16384)},
		{fixed(-api.MaxFix)}, {fixed(-16383*65536 - 1)}, {fixed(-16383 * 65536), integer(-16383)}, {fixed(-16383*65536 + 1)},
		{fixed(-65537)}, {fixed(-65536), integer(-1)}, {fixed(-65535)}, {fixed(-1)},
		{fixed(0), integer(0)}, {fixed(1)}, {fixed(2)}, {fixed(32768)}, {fixed(65535)}, {fixed(65536), integer(1)}, {fixed(65537)}, {fixed(131072), integer(2)}, {integer(3)},
		{fixed(16383*65536 - 1)}, {fixed(16383 * 65536), integer(16383)}, {fixed(16383*65536 + 1)}, {fixed(api.MaxFix)},
		{integer(16384)}, {integer(16385)}, {integer(65536)}, {integer(api.MaxFix)}, {integer(api.MaxInt - 1)}, {integer(api.MaxInt)},
	}
	for i, row := range rows {
		for k, other := range rows {
			for _, a := range row {
				for _, b := range other {
					checkPair(t, a, b, i < k, true, i == k)
					a.Exec = !a.Exec
					checkPair(t, a, b, i < k, true, i == k)
					checkPair(t, b, a, k < i, true, i == k)
				}
			}
		}
	}
}

// P10.2, P10.3: an Int and a Fix, equal, just below and just above.
func TestIntAgainstFix(t *testing.T) {
	for n := -16383; n <= 16383; n++ {
		for step := -1; step <= 1; step++ {
			f := n*65536 + step
			if f < -api.MaxFix || f > api.MaxFix {
				continue
			}
			checkPair(t, integer(n), fixed(f), 0 < step, true, step == 0)
			checkPair(t, fixed(f), integer(n), step < 0, true, step == 0)
		}
	}
}

// P10.2, P10.3: a number against an Int or a Fix that is not valid.
func TestNotValidIsNoNumber(t *testing.T) {
	for _, a := range []api.Object{integer(api.MaxInt + 1), integer(-api.MaxInt - 1), integer(math.MaxInt), integer(math.MinInt), fixed(api.MaxFix + 1), fixed(-api.MaxFix - 1), fixed(api.MaxInt), fixed(math.MaxInt), fixed(math.MinInt), {Kind: api.Int, N: 1, At: 1}, {Kind: api.Int, N: 1, Len: -1}, {Kind: api.Fix, N: 65536, S: "x"}} {
		for _, b := range []api.Object{integer(0), integer(1), integer(-1), integer(api.MaxInt), fixed(0), fixed(65536), fixed(api.MaxFix)} {
			checkPair(t, a, b, false, false, false)
			checkPair(t, b, a, false, false, false)
		}
		checkPair(t, a, a, false, false, true)
		x := a
		x.Exec = true
		checkPair(t, a, x, false, false, true)
		checkPair(t, x, a, false, false, true)
	}
	// These would represent the same number, but are compared field by field.
	checkPair(t, integer(16384), fixed(1<<30), false, false, false)
	checkPair(t, fixed(1<<30), integer(16384), false, false, false)
	checkPair(t, integer(1<<40), fixed(1<<56), false, false, false)
	// As would these, were the product with 65536 to wrap round.
	checkPair(t, integer(1<<48), fixed(0), false, false, false)
	checkPair(t, integer(1<<48+1), integer(1), false, false, false)
}

// P10.3: objects that are no numbers, equal and with a difference in each field alone.
func TestSameByFields(t *testing.T) {
	kinds := others()
	for _, s := range shapes() {
		kinds = append(kinds, s.kind)
	}
	for _, kind := range kinds {
		a := api.Object{Kind: kind, N: 3, At: 4, Len: 5, S: "six"}
		x := a
		x.Exec = true
		checkPair(t, a, a, false, false, true)
		checkPair(t, a, x, false, false, true)
		checkPair(t, x, a, false, false, true)
		for _, b := range changed(a) {
			same := a == b
			checkPair(t, a, b, false, false, same)
			checkPair(t, b, x, false, false, same)
		}
		for _, other := range kinds {
			b := a
			b.Kind = other
			checkPair(t, a, b, false, false, kind == other)
		}
	}
	built := api.Object{Kind: api.Name, S: string([]byte{'a', 'b'})}
	checkPair(t, built, api.Object{Kind: api.Name, S: "ab"}, false, false, true)
	checkPair(t, built, api.Object{Kind: api.Name, S: "aB"}, false, false, false)
	checkPair(t, api.Object{Kind: api.Name, S: "1"}, integer(1), false, false, false)
	checkPair(t, api.Object{Kind: api.Bool, N: 1}, integer(1), false, false, false)
	checkPair(t, api.Object{}, api.Object{}, false, false, true)
}

// samples are objects of all kinds, valid and not.
func samples() []api.Object {
	var l []api.Object
	for _, s := range shapes() {
		l = append(l, s.least(), s.greatest(), api.Object{Kind: s.kind, N: 1, At: 1, S: "a"})
	}
	for _, kind := range others() {
		l = append(l, api.Object{Kind: kind, N: 1})
	}
	for _, n := range values() {
		l = append(l, integer(n), fixed(n), api.Object{Kind: api.Bool, N: n})
		if n > -40000 && n < 40000 {
			l = append(l, fixed(n*65536), fixed(n*65536+1), fixed(n*65536-1))
		}
	}
	return append(l, api.Object{Kind: api.Int, Exec: true, N: 1}, api.Object{Kind: api.Name, Exec: true, S: "a"}, api.Object{Kind: api.Name, S: "a"})
}

// P10.2, P10.3: all pairs, against rational numbers.
func TestAllPairs(t *testing.T) {
	all := samples()
	var numbers []*big.Rat
	for _, o := range all {
		numbers = append(numbers, number(o))
	}
	for i, a := range all {
		for k, b := range all {
			if p, q := numbers[i], numbers[k]; p != nil && q != nil {
				checkPair(t, a, b, p.Cmp(q) < 0, true, p.Cmp(q) == 0)
			} else {
				same := a.Kind == b.Kind && a.N == b.N && a.At == b.At && a.Len == b.Len && a.S == b.S
				checkPair(t, a, b, false, false, same)
			}
		}
	}
}

// P10.5: of any two numbers exactly one of less, greater and the same holds; other objects are not ordered.
func TestExactlyOne(t *testing.T) {
	all := samples()
	for _, a := range all {
		for _, b := range all {
			less, ok := Less(a, b)
			greater, back := Less(b, a)
			same := Same(a, b)
			count := 0
			for _, holds := range []bool{less, greater, same} {
				if holds {
					count++
				}
			}
			pair := told(a) + "; " + told(b)
			if ok != back || same != Same(b, a) {
				t.Errorf("P10.5: the order of %s matters", pair)
			}
			if ok && count != 1 {
				t.Errorf("P10.5: %s: less %v, greater %v, same %v", pair, less, greater, same)
			}
			if !ok && (less || greater) {
				t.Errorf("P10.5: %s are ordered", pair)
			}
		}
	}
}

// P10.5: sorted by Less, each number is less than all later ones that are not the same.
func TestSortedNumbers(t *testing.T) {
	var l []api.Object
	for _, o := range samples() {
		if number(o) != nil {
			l = append(l, o)
		}
	}
	slices.SortStableFunc(l, func(a, b api.Object) int {
		if less, _ := Less(a, b); less {
			return -1
		}
		if Same(a, b) {
			return 0
		}
		return 1
	})
	for i, a := range l {
		for _, b := range l[i+1:] {
			if greater, ok := Less(b, a); greater || !ok {
				t.Errorf("P10.5: %s is sorted behind %s", told(b), told(a))
			}
		}
	}
}
