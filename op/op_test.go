package op

import (
	"math"
	"strings"
	"testing"
)

// numbers returns the number of each name of the chapter's table.
func numbers(t *testing.T) map[string]int {
	t.Helper()
	of := map[string]int{}
	for _, r := range chapter() {
		of[r.name] = r.number
	}
	if len(of) != 162 {
		t.Fatalf("the test's own table has %d names", len(of))
	}
	return of
}

// checkNumber compares Number of a name with the chapter's table.
func checkNumber(t *testing.T, of map[string]int, name string) {
	t.Helper()
	want, is := of[name]
	if n, ok := Number(name); n != want || ok != is {
		t.Errorf("P15.1: Number(%.60q): %d, %v, want %d, %v", name, n, ok, want, is)
	}
}

func TestCount(t *testing.T) {
	for range 2 {
		if n := Count(); n != 162 {
			t.Errorf("P15.1: Count: %d, want 162", n)
		}
	}
}

func TestChapter(t *testing.T) {
	for i, r := range chapter() {
		if r.number != i+1 {
			t.Fatalf("the test's own table has number %d in row %d", r.number, i+1)
		}
		if got := Name(r.number); got != r.name {
			t.Errorf("P15.1: Name(%d): %q, want %q", r.number, got, r.name)
		}
		if n, ok := Number(r.name); n != r.number || !ok {
			t.Errorf("P15.1: Number(%q): %d, %v, want %d", r.name, n, ok, r.number)
		}
		if f := Family(r.number); f != r.family {
			t.Errorf("P15.1: Family(%d): %d, want %d", r.number, f, r.family)
		}
	}
}

func TestFamilies(t *testing.T) {
	families := []struct {
		from, to    int
		first, last string
	}{
		{1, 38, "pop", "<<"},
		{39, 58, "copy", "cat"},
		{59, 71, "dict", ">>"},
		{72, 80, "type", "cvrs"},
		{81, 101, "exec", "vmstatus"},
		{102, 162, "gsave", "setscreen"},
	}
	for i, f := range families {
		if got := Family(f.from); got != i+1 {
			t.Errorf("P15.1: Family(%d): %d, want %d", f.from, got, i+1)
		}
		if got := Family(f.to); got != i+1 {
			t.Errorf("P15.1: Family(%d): %d, want %d", f.to, got, i+1)
		}
		if got := Family(f.from - 1); got != i {
			t.Errorf("P15.1: Family(%d): %d, want %d", f.from-1, got, i)
		}
		if got := Name(f.from); got != f.first {
			t.Errorf("P15.1: Name(%d): %q, want %q", f.from, got, f.first)
		}
		if got := Name(f.to); got != f.last {
			t.Errorf("P15.1: Name(%d): %q, want %q", f.to, got, f.last)
		}
	}
}

func TestNoSuchNumber(t *testing.T) {
	none := []int{
		0, -1, -2, -161, -162, -163, 163, 164, 255, 256, 257, 324, 1000,
		math.MinInt, math.MinInt + 1, math.MinInt + 163, math.MaxInt, math.MaxInt - 1, math.MaxInt - 162,
		math.MinInt32, math.MinInt32 - 1, math.MaxInt32, math.MaxInt32 + 1,
	}
	// The numbers whose low bits are those of an operator.
	for n := 1; n <= 162; n++ {
		none = append(none, -n, n+1<<8, n+1<<16, n+1<<32, n-1<<32, n+math.MinInt)
	}
	for n := 163; n <= 2000; n++ {
		none = append(none, n, -n)
	}
	for _, n := range none {
		if got := Name(n); got != "" {
			t.Errorf("P15.1: Name(%d): %q, want none", n, got)
		}
		if got := Family(n); got != 0 {
			t.Errorf("P15.1: Family(%d): %d, want 0", n, got)
		}
	}
}

func TestThereAndBack(t *testing.T) {
	for n := 1; n <= Count(); n++ {
		if k, ok := Number(Name(n)); k != n || !ok {
			t.Errorf("P15.1: Number(Name(%d)): %d, %v", n, k, ok)
		}
	}
	for _, r := range chapter() {
		n, _ := Number(r.name)
		if got := Name(n); got != r.name {
			t.Errorf("P15.1: Name(Number(%q)): %q", r.name, got)
		}
	}
}

func TestAllDifferent(t *testing.T) {
	seen := map[string]int{}
	for n := 1; n <= Count(); n++ {
		name := Name(n)
		if name == "" {
			t.Errorf("P15.2: operator %d has no name", n)
		}
		if k := seen[name]; k != 0 {
			t.Errorf("P15.2: %d and %d are both %q", k, n, name)
		}
		seen[name] = n
	}
	if len(seen) != 162 {
		t.Errorf("P15.2: %d different names, want 162", len(seen))
	}
}

func TestNamesOfSigns(t *testing.T) {
	for name, want := range map[string]int{"[": 37, "]": 57, "<<": 38, ">>": 71, "=": 94, "==": 95} {
		if n, ok := Number(name); n != want || !ok {
			t.Errorf("P15.1: Number(%q): %d, %v, want %d", name, n, ok, want)
		}
		if got := Name(want); got != name {
			t.Errorf("P15.1: Name(%d): %q, want %q", want, got, name)
		}
	}
	for _, name := range []string{"<", ">", "<>", "><", "<<<", ">>>", "===", "= =", "[]", "{", "}", "(", ")", "<<\n", ">>\n", "[ <<", "= =="} {
		if n, ok := Number(name); n != 0 || ok {
			t.Errorf("P15.1: Number(%q): %d, %v, want none", name, n, ok)
		}
	}
}

func TestBeginnings(t *testing.T) {
	for name, want := range map[string]int{
		"get": 49, "getinterval": 51, "put": 50, "putinterval": 52,
		"copy": 39, "copypage": 158, "if": 82, "ifelse": 83, "for": 84, "forall": 90,
		"stop": 88, "stopped": 89, "count": 7, "countdictstack": 69, "counttomark": 9,
		"mark": 8, "exch": 2, "image": 155, "imagemask": 156,
	} {
		if n, ok := Number(name); n != want || !ok {
			t.Errorf("P15.1: Number(%q): %d, %v, want %d", name, n, ok, want)
		}
	}
	for _, name := range []string{"set", "a", "in", "current", "countto", "clearto", "r", "s", "p", "po", "setscree"} {
		if n, ok := Number(name); n != 0 || ok {
			t.Errorf("P15.1: Number(%q): %d, %v, want none", name, n, ok)
		}
	}
}

func TestNoSuchName(t *testing.T) {
	names := []string{
		"", " ", "\n", "  ", " \n", "\n\n", "\t", "\r", "\x00", "\x00\x00", "\xff", "\xc3", "\xe2\x80", "\xed\xa0\x80", "�", "é", "ｐｏｐ",
		"Pop", "POP", "pOP", "Add", "ADD", "showPage", "SHOWPAGE", "True", "FALSE", "Null",
		"pop ", " pop", "po p", "p op", "pop\n", "\npop", "cat\n", "setscreen\n", "setscreen ", "setscreen\n ",
		"pop\x00", "\x00pop", "p\x00op", "pop\xff", "\xffpop", "p\xffop", "\xf0pop", "pop\xc3", "añdd",
		"popp", "ppop", "op", "po", "pop exch", "pop exch ", "exch dup index", "eoclip initclip",
		"<<\ncopy", "cat\ndict", ">>\ntype", "cvrs\nexec", "vmstatus\ngsave",
		"1", "11", "162", "/pop", "(pop)", "pop,exch",
	}
	for _, name := range names {
		if n, ok := Number(name); n != 0 || ok {
			t.Errorf("P15.1: Number(%q): %d, %v, want none", name, n, ok)
		}
	}
}

func TestLongNames(t *testing.T) {
	of := numbers(t)
	for _, part := range []string{"a", " ", "\n", "\x00", "\xff", "pop", "pop ", "setscreen\n", "=", "é"} {
		checkNumber(t, of, strings.Repeat(part, 1<<20))
		checkNumber(t, of, "pop"+strings.Repeat(part, 4000))
		checkNumber(t, of, strings.Repeat(part, 4000)+"pop")
	}
	for _, between := range []string{"", " ", "\n", "\x00"} {
		all := ""
		for _, r := range chapter() {
			all += r.name + between
			if r.number > 1 {
				checkNumber(t, of, all)
			}
		}
	}
}

// Each name with one byte more, one less or another one, and each part of it.
func TestNeighboursOfNames(t *testing.T) {
	of := numbers(t)
	for _, r := range chapter() {
		s := r.name
		for i := 0; i <= len(s); i++ {
			for c := range 256 {
				checkNumber(t, of, s[:i]+string([]byte{byte(c)})+s[i:])
				if i < len(s) {
					checkNumber(t, of, s[:i]+string([]byte{byte(c)})+s[i+1:])
				}
			}
			if i < len(s) {
				checkNumber(t, of, s[:i]+s[i+1:])
			}
			for j := i; j <= len(s); j++ {
				checkNumber(t, of, s[i:j])
			}
		}
		checkNumber(t, of, strings.ToUpper(s))
		checkNumber(t, of, strings.ToUpper(s[:1])+s[1:])
		checkNumber(t, of, s+s)
	}
}

// Two names of the table, one behind the other, with each byte between them or none.
func TestTwoNames(t *testing.T) {
	of := numbers(t)
	rows := chapter()
	for i := range rows[1:] {
		a, b := rows[i].name, rows[i+1].name
		checkNumber(t, of, a+b)
		for c := range 256 {
			mid := string([]byte{byte(c)})
			checkNumber(t, of, a+mid+b)
			checkNumber(t, of, a+mid)
			checkNumber(t, of, mid+b)
			checkNumber(t, of, a[len(a)-1:]+mid+b[:1])
		}
	}
}

func TestShortNames(t *testing.T) {
	of := numbers(t)
	for a := range 256 {
		checkNumber(t, of, string([]byte{byte(a)}))
		for b := range 256 {
			checkNumber(t, of, string([]byte{byte(a), byte(b)}))
		}
	}
}

func TestExamples(t *testing.T) {
	n, ok := Number("add")
	if Name(1) != "pop" || n != 11 || !ok || Family(11) != 1 {
		t.Errorf("the chapter's examples: %q, %d, %v, %d", Name(1), n, ok, Family(11))
	}
}
