package tests

import (
	"fmt"
	"slices"
	"strconv"
	"strings"
	"testing"

	"loop.example/g00201/impl"
)

// abstractCases are combinators, a variable, and what they are without it; nothing where that is not good.
var abstractCases = []struct {
	text string
	x    int
	want string
}{
	// It is not in it: K of all of it, not of its parts.
	{"S", 0, "(K S)"}, {"K", 0, "(K K)"}, {"I", 0, "(K I)"}, {"x1", 0, "(K x1)"}, {"x0", 1, "(K x0)"}, {"x10", 1, "(K x10)"}, {"x1", 10, "(K x1)"}, {"(x1 x2)", 0, "(K (x1 x2))"}, {"((x1 S) (K x2))", 0, "(K ((x1 S) (K x2)))"}, {"(I x1)", 2, "(K (I x1))"},
	// It is the variable.
	{"x0", 0, "I"}, {"x7", 7, "I"}, {"x999", 999, "I"},
	// What is applied to the variable alone needs no S.
	{"(x1 x0)", 0, "x1"}, {"(S x0)", 0, "S"}, {"(K x0)", 0, "K"}, {"((x1 (S K)) x0)", 0, "(x1 (S K))"}, {"((I x1) x999)", 999, "(I x1)"},
	// With the variable in what is applied, too.
	{"(x0 x0)", 0, "((S I) I)"}, {"((x1 x0) x0)", 0, "((S x1) I)"}, {"((x0 x1) x0)", 0, "((S ((S I) (K x1))) I)"}, {"(((x0 x0) x0) x0)", 0, "((S ((S ((S I) I)) I)) I)"},
	// It is in the first part alone, in the second alone, in both.
	{"(x0 x1)", 0, "((S I) (K x1))"}, {"(x0 (x1 x2))", 0, "((S I) (K (x1 x2)))"}, {"(x1 (x2 x0))", 0, "((S (K x1)) x2)"}, {"((x1 x2) (x3 x0))", 0, "((S (K (x1 x2))) x3)"}, {"((x1 x0) x2)", 0, "((S x1) (K x2))"}, {"((x1 x0) (x2 x0))", 0, "((S x1) x2)"}, {"(x0 (x1 x0))", 0, "((S I) x1)"},
	{"((x0 x1) (x1 x0))", 0, "((S ((S I) (K x1))) x1)"}, {"(x1 (x0 x0))", 0, "((S (K x1)) ((S I) I))"}, {"(x1 (x2 (x3 x0)))", 0, "((S (K x1)) ((S (K x2)) x3))"},
	// The ends of x, and beyond them.
	{"(x999 x0)", 999, "((S I) (K x0))"}, {"(x0 x999)", 0, "((S I) (K x999))"}, {"x0", -1, ""}, {"x0", 1000, ""}, {"S", -1, ""}, {"S", 1000, ""}, {"(x999 x1)", 1000, ""},
	// Too many nodes, too deep, by one node or two.
	{wideComb(197, "S"), 0, "(K " + wideComb(197, "S") + ")"}, {wideComb(199, "S"), 0, ""}, {"(" + wideComb(197, "S") + " x0)", 0, wideComb(197, "S")},
	{"(" + wideComb(193, "S") + " (x1 x0))", 0, "((S (K " + wideComb(193, "S") + ")) x1)"}, {"(" + wideComb(195, "S") + " (x1 x0))", 0, ""}, {"(x0 " + wideComb(193, "S") + ")", 0, "((S I) (K " + wideComb(193, "S") + "))"}, {"(x0 " + wideComb(195, "S") + ")", 0, ""},
	{appliedTo("x1", 58, "K"), 0, "(K " + appliedTo("x1", 58, "K") + ")"}, {appliedTo("x1", 59, "K"), 0, ""}, {behindAll("x1", 59, "x2"), 0, ""}, {"(" + appliedTo("x1", 58, "K") + " x0)", 0, appliedTo("x1", 58, "K")},
	{"(x0 " + behindAll("K", 57, "I") + ")", 0, "((S I) (K " + behindAll("K", 57, "I") + "))"}, {"(x0 " + behindAll("K", 58, "I") + ")", 0, ""}, {"(" + behindAll("K", 56, "I") + " (x1 x0))", 0, "((S (K " + behindAll("K", 56, "I") + ")) x1)"}, {"(" + behindAll("K", 57, "I") + " (x1 x0))", 0, ""},
}

func TestAbstractEdges(t *testing.T) {
	for _, c := range abstractCases {
		abstracts(t, c.text, c.x, c.want)
	}
}

// A row of one variable becomes twice as deep and one more: 29 behind the first one make 59, 30 are too many.
func TestAbstractOfRows(t *testing.T) {
	for many := 1; many <= 40; many++ {
		want := strings.Repeat("((S ", many) + "I" + strings.Repeat(") I)", many)
		if many > 29 {
			want = ""
		}
		abstracts(t, appliedTo("x5", many, "x5"), 5, want)
	}
}

func TestAbstractAsModel(t *testing.T) {
	d := &dice{state: 1609}
	all := append(drawnCombs(1613, 3000, 20), drawnCombs(1619, 600, 100)...)
	for _, c := range abstractCases {
		all = append(all, combIn(c.text))
	}
	told, grown := 0, 0
	for _, l := range all {
		for _, x := range []int{0, 1, 2, 999, d.below(1000), d.below(3000) - 1000} {
			want, wantOk := modelAbstract(l, x)
			if !modelGoodComb(l) {
				want, wantOk = nil, false
			}
			got, ok := impl.AbstractComb(l, x)
			toldComb(t, fmt.Sprintf("AbstractComb(%s, %d)", spellComb(l), x), got, ok, want, wantOk)
			switch {
			case ok && len(got) > len(l)+4:
				told++
			case !ok && x >= 0 && x <= 999:
				grown++
			}
		}
	}
	if told < 500 || grown < 100 {
		t.Errorf("%d have the variable several times, %d can not be told", told, grown)
	}
}

// sameNormal asks two combinators for one normal form, and says whether both end.
func sameNormal(t *testing.T, a []impl.Comb, b []impl.Comb) bool {
	t.Helper()
	first, _, ok := impl.NormalComb(a, 1000)
	second, _, alsoOk := impl.NormalComb(b, 1000)
	if !ok || !alsoOk {
		return false
	}
	toldComb(t, fmt.Sprintf("the normal form of %s, by %s", spellComb(a), spellComb(b)), first, true, second, true)
	return true
}

// What is told of x has not x in it, but all other variables, and applied to anything it comes to what that makes of x.
func TestAbstractApplied(t *testing.T) {
	d := &dice{state: 1621}
	both, with := 0, 0
	for _, l := range append(drawnCombs(1627, 4000, 12), drawnCombs(1637, 400, 40)...) {
		x := d.below(3)
		a, ok := impl.AbstractComb(l, x)
		if !ok {
			continue
		}
		left := slices.DeleteFunc(variablesOf(l), func(n int) bool { return n == x })
		if got := variablesOf(a); !slices.Equal(got, left) {
			t.Errorf("AbstractComb(%s, %d): %s, with the variables %v", spellComb(l), x, spellComb(a), got)
		}
		for _, s := range []string{"x" + strconv.Itoa(x), "x900", "I", "(K x1)", d.comb(1+d.below(6), 4)} {
			put, ok := impl.PutComb(l, x, combIn(s))
			if !ok || !sameNormal(t, combIn("("+spellComb(a)+" "+s+")"), put) {
				continue
			}
			both++
			if len(left) < len(variablesOf(l)) {
				with++
			}
		}
	}
	if both < 5000 || with < 2000 {
		t.Errorf("only %d ended, %d with the variable", both, with)
	}
}

// Two variables that go, one behind the other, take what they are applied to in their order.
func TestAbstractTwice(t *testing.T) {
	both := 0
	for _, l := range drawnCombs(1657, 3000, 10) {
		inner, ok := impl.AbstractComb(l, 1)
		if !ok {
			continue
		}
		outer, ok := impl.AbstractComb(inner, 0)
		if !ok {
			continue
		}
		first, _ := impl.PutComb(l, 0, combIn("(x50 K)"))
		want, _ := impl.PutComb(first, 1, combIn("x51"))
		if sameNormal(t, combIn("(("+spellComb(outer)+" (x50 K)) x51)"), want) {
			both++
		}
	}
	if both < 2000 {
		t.Errorf("only %d ended", both)
	}
}

// combPutCases are combinators, a variable, what is put in, and the outcome; nothing where that is not good.
var combPutCases = []struct {
	text string
	x    int
	s    string
	want string
}{
	// Not at all, once, several times.
	{"S", 0, "x1", "S"}, {"(x1 x2)", 0, "(S K)", "(x1 x2)"}, {"x0", 0, "(S K)", "(S K)"}, {"x0", 1, "(S K)", "x0"}, {"x1", 10, "S", "x1"}, {"x10", 1, "S", "x10"}, {"(x0 x1)", 1, "(K I)", "(x0 (K I))"}, {"(x0 x1)", 0, "(K I)", "((K I) x1)"},
	{"((x0 x1) (S x0))", 0, "(K I)", "(((K I) x1) (S (K I)))"}, {"((x2 x2) (x2 x2))", 2, "x3", "((x3 x3) (x3 x3))"}, {"(I x0)", 0, "x5", "(I x5)"},
	// What is put in is not looked at again.
	{"x0", 0, "(x0 x0)", "(x0 x0)"}, {"(x0 (x0 x1))", 0, "(x1 x0)", "((x1 x0) ((x1 x0) x1))"}, {"x0", 0, "x0", "x0"},
	// The ends of x, and beyond them.
	{"(x999 x0)", 999, "I", "(I x0)"}, {"(x999 x0)", 0, "I", "(x999 I)"}, {"x0", -1, "I", ""}, {"x0", 1000, "I", ""}, {"S", -1, "I", ""}, {"S", 1000, "I", ""},
	// Too many nodes, too deep; and what is put in nowhere does not count, but must be good.
	{"(x0 x0)", 0, wideComb(99, "S"), "(" + wideComb(99, "S") + " " + wideComb(99, "S") + ")"}, {"((x0 x0) x1)", 0, wideComb(99, "S"), ""}, {"(x0 x0)", 0, wideComb(101, "S"), ""}, {"(x0 " + wideComb(99, "K") + ")", 0, wideComb(99, "S"), "(" + wideComb(99, "S") + " " + wideComb(99, "K") + ")"}, {"(x0 " + wideComb(101, "K") + ")", 0, wideComb(99, "S"), ""}, {"(x0 " + wideComb(99, "K") + ")", 0, wideComb(101, "S"), ""},
	{wideComb(199, "x0"), 0, "S", wideComb(199, "S")}, {wideComb(199, "x0"), 0, "(S K)", ""}, {wideComb(199, "x0"), 1, wideComb(199, "K"), wideComb(199, "x0")}, {"x0", 0, wideComb(199, "K"), wideComb(199, "K")}, {"x0", 1, wideComb(201, "K"), ""}, {"x0", 0, wideComb(201, "K"), ""}, {wideComb(201, "S"), 0, "S", ""},
	{behindAll("S", 30, "x0"), 0, behindAll("S", 29, "K"), behindAll("S", 59, "K")}, {behindAll("S", 30, "x0"), 0, behindAll("S", 30, "K"), ""}, {behindAll("x0", 59, "K"), 0, "I", behindAll("I", 59, "K")}, {behindAll("x0", 49, "K"), 0, "(I I)", behindAll("(I I)", 49, "K")}, {behindAll("x0", 50, "K"), 0, "(I I)", ""}, {behindAll("S", 59, "x0"), 0, "(I I)", ""}, {"x0", 1, "x1000", ""},
}

func TestPutCombEdges(t *testing.T) {
	for _, c := range combPutCases {
		putsComb(t, c.text, c.x, c.s, c.want)
	}
}

func TestPutCombAsModel(t *testing.T) {
	d := &dice{state: 1663}
	all := append(drawnCombs(1667, 3000, 20), drawnCombs(1669, 600, 100)...)
	told, grown := 0, 0
	for at := range len(all) - 1 {
		l, s := all[at], all[at+1]
		for _, x := range []int{0, 1, 999, d.below(1000), d.below(3000) - 1000} {
			want, wantOk := modelPut(l, x, s)
			got, ok := impl.PutComb(l, x, s)
			toldComb(t, fmt.Sprintf("PutComb(%s, %d, %s)", spellComb(l), x, spellComb(s)), got, ok, want, wantOk)
			switch {
			case ok && !slices.Equal(got, l):
				told++
			case !ok && x >= 0 && x <= 999:
				grown++
			}
		}
	}
	if told < 1000 || grown < 100 {
		t.Errorf("%d are changed, %d can not be", told, grown)
	}
}

// Variables that are put in one behind the other, neither in the other's place, may be put in the other way round.
func TestPutCombInAnyOrder(t *testing.T) {
	all := drawnCombs(1693, 2000, 12)
	for at := range len(all) - 2 {
		l := all[at]
		a, aOk := impl.PutComb(all[at+1], 1, combIn("S"))
		b, bOk := impl.PutComb(all[at+2], 0, combIn("K"))
		first, firstOk := impl.PutComb(l, 0, a)
		second, secondOk := impl.PutComb(l, 1, b)
		if !aOk || !bOk || !firstOk || !secondOk {
			continue
		}
		// a has no x1 and b no x0.
		one, oneOk := impl.PutComb(first, 1, b)
		other, otherOk := impl.PutComb(second, 0, a)
		toldComb(t, fmt.Sprintf("%s with %s and %s", spellComb(l), spellComb(a), spellComb(b)), one, oneOk, other, otherOk)
	}
}
