package obj

import (
	"math"
	"slices"
	"strings"
	"testing"

	"tympan/api"
)

// bounds are the least and the greatest value of a field; without them the field is 0.
type bounds struct{ low, high int }

// shape is what the document says of the fields of a kind; letters are the most bytes of S.
type shape struct {
	kind       int
	name       string
	n, at, len bounds
	letters    int
}

// shapes lists the kinds, with the limits written out, so that a changed limit is noticed.
func shapes() []shape {
	items := bounds{0, 40000}
	return []shape{
		{kind: 1, name: "nulltype"},
		{kind: 2, name: "booltype", n: bounds{0, 1}},
		{kind: 3, name: "inttype", n: bounds{-2147483647, 2147483647}},
		{kind: 4, name: "fixtype", n: bounds{-1073741823, 1073741823}},
		{kind: 5, name: "nametype", letters: 100},
		{kind: 6, name: "marktype"},
		{kind: 7, name: "optype", n: bounds{1, 200}},
		{kind: 8, name: "stringtype", n: items, at: items, len: items},
		{kind: 9, name: "arraytype", n: items, at: items, len: items},
		{kind: 10, name: "dicttype", n: items},
		{kind: 11, name: "savetype", n: bounds{1, 2147483647}},
	}
}

// others are kinds that are none.
func others() []int {
	return []int{0, -1, -2, -3, -4, -11, 12, 13, 14, 15, 22, 100, 256 + api.Int, 1<<32 + api.Int, 1<<32 + api.Null, math.MaxInt, math.MaxInt - 1, math.MinInt, math.MinInt + 1, math.MinInt + api.Fix}
}

// values returns what a field is set to: all bounds of all fields from both sides, and the ends of int.
func values() []int {
	l := []int{math.MinInt, math.MinInt + 1, math.MaxInt - 1, math.MaxInt, 1 << 32, -1 << 32, 1<<32 + 1, 1 << 16, -1 << 16}
	for _, at := range []int{0, 1, 100, 200, 4000, 16383, 40000, 1<<30 - 1, 1<<31 - 1} {
		for step := -2; step <= 2; step++ {
			l = append(l, at+step, -at+step)
		}
	}
	slices.Sort(l)
	return slices.Compact(l)
}

// texts returns what S is set to.
func texts() []string {
	return []string{"", "x", "\x00", " ", "\xff\xfe", strings.Repeat("n", 99), strings.Repeat("n", 100), strings.Repeat("\x00", 100), strings.Repeat("é", 50), strings.Repeat("n", 101), strings.Repeat("é", 51), strings.Repeat("n", 4000), strings.Repeat("n", 70000)}
}

func (b bounds) hold(v int) bool { return b.low <= v && v <= b.high }

// valid is P10.1 said a second time.
func valid(o api.Object) bool {
	for _, s := range shapes() {
		if s.kind == o.Kind {
			return s.n.hold(o.N) && s.at.hold(o.At) && s.len.hold(o.Len) && len(o.S) <= s.letters
		}
	}
	return false
}

// least is the object of the kind whose fields are at their lower bounds.
func (s shape) least() api.Object {
	return api.Object{Kind: s.kind, N: s.n.low, At: s.at.low, Len: s.len.low}
}

func (s shape) greatest() api.Object {
	return api.Object{Kind: s.kind, N: s.n.high, At: s.at.high, Len: s.len.high, S: strings.Repeat("z", s.letters)}
}

// changed returns the objects that differ from o in at most one field.
func changed(o api.Object) []api.Object {
	var l []api.Object
	for _, v := range values() {
		n, at, size := o, o, o
		n.N, at.At, size.Len = v, v, v
		l = append(l, n, at, size)
	}
	for _, s := range texts() {
		o.S = s
		l = append(l, o)
	}
	return l
}

func checkMay(t *testing.T, o api.Object, want bool) {
	t.Helper()
	for _, o.Exec = range []bool{false, true} {
		if got := May(o); got != want {
			t.Errorf("P10.1: May(%s) = %v, want %v", told(o), got, want)
		}
	}
}

// P10.1: the bounds, row by row.
func TestMayRows(t *testing.T) {
	for _, o := range []api.Object{
		{Kind: api.Null}, {Kind: api.Mark},
		{Kind: api.Bool, N: 0}, {Kind: api.Bool, N: 1},
		{Kind: api.Int, N: 0}, {Kind: api.Int, N: api.MaxInt}, {Kind: api.Int, N: -api.MaxInt},
		{Kind: api.Fix, N: 0}, {Kind: api.Fix, N: api.MaxFix}, {Kind: api.Fix, N: -api.MaxFix},
		{Kind: api.Name}, {Kind: api.Name, S: "moveto"}, {Kind: api.Name, S: "\x00 ()%\xff"}, {Kind: api.Name, S: strings.Repeat("a", api.MaxName)},
		{Kind: api.Op, N: 1}, {Kind: api.Op, N: 200},
		{Kind: api.String}, {Kind: api.String, N: api.MaxItems}, {Kind: api.String, At: api.MaxItems}, {Kind: api.String, Len: api.MaxItems}, {Kind: api.String, N: api.MaxItems, At: api.MaxItems, Len: api.MaxItems},
		{Kind: api.Array}, {Kind: api.Array, N: api.MaxItems}, {Kind: api.Array, At: api.MaxItems}, {Kind: api.Array, Len: api.MaxItems}, {Kind: api.Array, N: api.MaxItems, At: api.MaxItems, Len: api.MaxItems},
		{Kind: api.Dict}, {Kind: api.Dict, N: api.MaxItems},
		{Kind: api.Save, N: 1}, {Kind: api.Save, N: api.MaxInt},
	} {
		checkMay(t, o, true)
	}
	for _, o := range []api.Object{
		{}, {Kind: 12}, {Kind: -1}, {S: "x"},
		{Kind: api.Bool, N: 2}, {Kind: api.Bool, N: -1},
		{Kind: api.Int, N: api.MaxInt + 1}, {Kind: api.Int, N: -api.MaxInt - 1},
		{Kind: api.Fix, N: api.MaxFix + 1}, {Kind: api.Fix, N: -api.MaxFix - 1}, {Kind: api.Fix, N: api.MaxInt},
		{Kind: api.Name, S: strings.Repeat("a", api.MaxName+1)}, {Kind: api.Name, S: "a", N: 1}, {Kind: api.Name, S: "a", Len: 1},
		{Kind: api.Op, N: 0}, {Kind: api.Op, N: 201}, {Kind: api.Op, N: -1}, {Kind: api.Op, N: 1, S: "add"},
		{Kind: api.String, N: -1}, {Kind: api.String, At: -1}, {Kind: api.String, Len: -1}, {Kind: api.String, S: "a", Len: 1},
		{Kind: api.String, N: api.MaxItems + 1}, {Kind: api.String, At: api.MaxItems + 1}, {Kind: api.String, Len: api.MaxItems + 1},
		{Kind: api.Array, N: -1}, {Kind: api.Array, At: -1}, {Kind: api.Array, Len: -1}, {Kind: api.Array, S: "a"},
		{Kind: api.Array, N: api.MaxItems + 1}, {Kind: api.Array, At: api.MaxItems + 1}, {Kind: api.Array, Len: api.MaxItems + 1},
		{Kind: api.Dict, N: -1}, {Kind: api.Dict, N: api.MaxItems + 1}, {Kind: api.Dict, Len: 1},
		{Kind: api.Save, N: 0}, {Kind: api.Save, N: -1}, {Kind: api.Save, N: api.MaxInt + 1},
	} {
		checkMay(t, o, false)
	}
}

// P10.1: every field of every kind, used or not, set to every value, the other ones at both of their bounds.
func TestMayOfEachField(t *testing.T) {
	for _, s := range shapes() {
		for _, base := range []api.Object{s.least(), s.greatest()} {
			checkMay(t, base, true)
			for _, o := range changed(base) {
				checkMay(t, o, valid(o))
			}
		}
	}
}

// P10.1: a field that is not used stays an error beside others that are wrong.
func TestMayOfTwoFields(t *testing.T) {
	for _, s := range shapes() {
		for _, v := range values() {
			for _, o := range changed(api.Object{Kind: s.kind, N: v}) {
				checkMay(t, o, valid(o))
			}
		}
	}
}

// P10.1: there is nothing valid of a kind that is none.
func TestMayOfOtherKinds(t *testing.T) {
	for _, kind := range others() {
		for _, o := range changed(api.Object{Kind: kind}) {
			checkMay(t, o, false)
		}
		checkMay(t, api.Object{Kind: kind, N: 1, At: 1, Len: 1}, false)
	}
}

// P10.4: every kind, whatever the other fields are.
func TestType(t *testing.T) {
	for _, s := range shapes() {
		for _, o := range changed(s.greatest()) {
			for _, o.Exec = range []bool{false, true} {
				if got := Type(o); got != s.name {
					t.Errorf("P10.4: Type(%s) = %q, want %q", told(o), got, s.name)
				}
			}
		}
	}
	for _, kind := range others() {
		for _, o := range []api.Object{{Kind: kind}, {Kind: kind, N: 1}, {Kind: kind, Exec: true, S: "inttype"}} {
			if got := Type(o); got != "" {
				t.Errorf("P10.4: Type(%s) = %q, want nothing", told(o), got)
			}
		}
	}
}
