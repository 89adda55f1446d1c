package tests

import (
	"fmt"
	"slices"
	"strings"
	"testing"

	"loop.example/g00201/impl"
)

// shiftCases are terms by which each edge of shifting is met.
var shiftCases = []struct {
	text string
	by   int
	from int
	want string
}{
	// An index just below from stays, one at from goes.
	{"(4 5)", 3, 5, "(4 8)"}, {"(4 5)", 3, 6, "(4 5)"}, {"(4 5)", 3, 4, "(7 8)"}, {"((0 1) 2)", 1, 1, "((0 2) 3)"},
	// Variables of lambdas stay, and free ones under lambdas go by their index.
	{`\0`, 5, 0, `\0`}, {`\1`, 5, 0, `\6`}, {`\(0 1)`, 1, 0, `\(0 2)`}, {`\\(0 (1 (2 3)))`, 2, 1, `\\(0 (1 (2 5)))`}, {`(2 \(3 \(4 5)))`, 10, 3, `(2 \(3 \(4 15)))`}, {`(2 \(3 \(4 5)))`, 10, 2, `(12 \(13 \(14 15)))`},
	{lambdas(38, "37"), 99, 0, lambdas(38, "37")}, {lambdas(39, "39"), 60, 0, lambdas(39, "99")}, {lambdas(39, "39"), 61, 0, ""},
	// Down: none of those that go may come below from; those below it do not count.
	{"5", -1, 4, "4"}, {"5", -1, 5, ""}, {"5", -2, 4, ""}, {"5", -5, 0, "0"}, {"5", -6, 0, ""}, {"0", -1, 0, ""}, {"0", -1, 1, "0"}, {"0", -99, 1, "0"}, {"(0 5)", -4, 1, "(0 1)"}, {"(0 5)", -5, 1, ""},
	{`\1`, -1, 0, ""}, {`\2`, -1, 0, `\1`}, {`\0`, -1, 0, `\0`}, {`\0`, -99, 0, `\0`}, {`\\(0 (1 3))`, -1, 0, `\\(0 (1 2))`}, {`(1 \1)`, -1, 0, ""}, {`(3 \5)`, -2, 1, `(1 \3)`}, {`(3 \5)`, -3, 1, ""}, {`(2 \6)`, -3, 2, ""}, {`(1 \6)`, -3, 2, `(1 \3)`},
	// Up: no N may come above 99, whatever lambdas are around.
	{"98", 1, 0, "99"}, {"99", 1, 0, ""}, {"98", 2, 0, ""}, {"99", 99, 0, ""}, {`\98`, 1, 0, `\99`}, {`\99`, 1, 0, ""}, {`(0 99)`, 1, 0, ""}, {"99", 1, 99, ""}, {"98", 1, 99, "98"}, {`\99`, 1, 99, `\99`}, {`\99`, 1, 98, ""},
	{"99", -99, 0, "0"}, {"99", -99, 1, ""}, {"99", -98, 1, "1"}, {"0", 99, 0, "99"}, {"1", 99, 0, ""}, {"1", 99, 2, "1"}, {"99", -1, 99, ""}, {"99", 0, 99, "99"}, {"5", 0, 5, "5"}, {"0", 0, 0, "0"}, {"0", 1, 0, "1"}, {"98", -98, 0, "0"},
	// What lies beyond the numbers that may be given.
	{"0", 100, 0, ""}, {"0", -100, 1, ""}, {"0", 0, 100, ""}, {"0", 0, -1, ""}, {`\0`, 100, 0, ""}, {`\0`, -100, 0, ""}, {`\0`, 1, 100, ""}, {`\0`, 1, -1, ""},
}

func TestShiftEdges(t *testing.T) {
	for _, c := range shiftCases {
		if c.want == "" {
			shiftsNot(t, c.text, c.by, c.from)
		} else {
			shifts(t, c.text, c.by, c.from, c.want)
		}
	}
}

func TestShiftAsModel(t *testing.T) {
	numbers := append(wrongInts(), -100, -99, -98, -5, -1, 0, 1, 2, 3, 5, 50, 97, 98, 99, 100)
	terms := drawnTerms(1321, 200, 20)
	for _, c := range shiftCases {
		terms = append(terms, nodesIn(c.text))
	}
	shifted, refusedOnes := 0, 0
	for _, l := range terms {
		for _, by := range numbers {
			for _, from := range numbers {
				want, wantOk := modelShift(l, by, from)
				got, ok := impl.ShiftTerm(l, by, from)
				toldTerm(t, fmt.Sprintf("ShiftTerm(%s, %d, %d)", spell(l), by, from), got, ok, want, wantOk)
				if ok && !slices.Equal(got, l) {
					shifted++
				} else if !ok && by >= -99 && by <= 99 && from >= 0 && from <= 99 {
					refusedOnes++
				}
			}
		}
	}
	if shifted < 1000 || refusedOnes < 1000 {
		t.Errorf("%d are shifted, %d can not be", shifted, refusedOnes)
	}
}

// What is shifted up and down again is itself, and nothing is put in for an index that shifting has left free.
func TestShiftsComeBack(t *testing.T) {
	d := &dice{state: 1327}
	for _, l := range append(drawnTerms(1361, 2000, 25), drawnTerms(1367, 100, 150)...) {
		by, from := d.below(30), d.below(5)
		up, ok := impl.ShiftTerm(l, by, from)
		if !ok {
			t.Errorf("ShiftTerm(%s, %d, %d) is not told", spell(l), by, from)
			continue
		}
		back, ok := impl.ShiftTerm(up, -by, from)
		toldTerm(t, fmt.Sprintf("%s shifted by %d from %d and back", spell(l), by, from), back, ok, l, true)
		one, _ := impl.ShiftTerm(l, 1, from)
		kept, ok := impl.SubstTerm(one, from, nodesIn(`\(0 7)`))
		toldTerm(t, fmt.Sprintf("%s with %d left free and filled", spell(l), from), kept, ok, l, true)
	}
}

// putCases are terms by which each edge of putting in is met.
var putCases = []struct {
	text string
	k    int
	s    string
	want string
}{
	{"0", 0, "7", "7"}, {"0", 0, `\0`, `\0`}, {"1", 0, "7", "0"}, {"0", 1, "7", "0"}, {"5", 5, "(1 2)", "(1 2)"}, {"4", 5, "(1 2)", "4"}, {"6", 5, "(1 2)", "5"}, {"(4 (5 6))", 5, "9", "(4 (9 5))"},
	{"99", 99, "3", "3"}, {"98", 99, "3", "98"}, {"99", 98, "3", "98"}, {"99", 0, "3", "98"}, {"(99 0)", 99, "50", "(50 0)"},
	// Under lambdas the index counts, and what is put in has as many more; its own lambdas' variables stay.
	{`\0`, 0, "7", `\0`}, {`\1`, 0, "7", `\8`}, {`\2`, 0, "7", `\1`}, {`\(0 (1 2))`, 0, "0", `\(0 (1 1))`}, {`\\2`, 0, `(0 \(0 1))`, `\\(2 \(0 3))`}, {`(0 \(1 \(2 \3)))`, 0, "4", `(4 \(5 \(6 \7)))`},
	{`(0 \(1 \2))`, 0, `\(0 (1 \(0 (1 2))))`, `(\(0 (1 \(0 (1 2)))) \(\(0 (2 \(0 (1 3)))) \\(0 (3 \(0 (1 4))))))`}, {`\3`, 2, "0", `\1`}, {`\\(3 (4 5))`, 2, "0", `\\(3 (2 4))`}, {`\\(0 (1 2))`, 5, "9", `\\(0 (1 2))`},
	// What comes to be too many, too deep or too great a number; and what is not put in does not count.
	{"(0 0)", 0, bushy(74, 1), "(" + bushy(74, 1) + " " + bushy(74, 1) + ")"}, {`\(1 1)`, 0, bushy(74, 1), `\(` + bushy(74, 2) + " " + bushy(74, 2) + ")"}, {`\\(2 2)`, 0, bushy(74, 1), ""}, {"(0 0)", 0, bushy(75, 1), ""}, {"(1 1)", 0, bushy(150, 1), "(0 0)"}, {"0", 0, bushy(150, 1), bushy(150, 1)}, {"(0 1)", 0, bushy(148, 1), "(" + bushy(148, 1) + " 0)"}, {"(0 1)", 0, bushy(149, 1), ""},
	{lambdas(20, "20"), 0, lambdas(19, "0"), lambdas(39, "0")}, {lambdas(20, "20"), 0, lambdas(20, "0"), ""}, {lambdas(20, "21"), 0, lambdas(39, "0"), lambdas(20, "20")}, {strings.Repeat("(0 ", 20) + "1" + strings.Repeat(")", 20), 1, lambdas(19, "0"), strings.Repeat("(0 ", 20) + lambdas(19, "0") + strings.Repeat(")", 20)}, {strings.Repeat("(0 ", 20) + "1" + strings.Repeat(")", 20), 1, lambdas(20, "0"), ""},
	{`\1`, 0, "98", `\99`}, {`\1`, 0, "99", ""}, {`\2`, 0, "99", `\1`}, {"0", 0, "99", "99"}, {lambdas(39, "39"), 0, "60", lambdas(39, "99")}, {lambdas(39, "39"), 0, "61", ""}, {`\1`, 0, `\99`, ""}, {`\1`, 0, `\98`, `\\99`}, {`\1`, 0, `\0`, `\\0`},
	// A k that is none.
	{"0", -1, "0", ""}, {"0", 100, "0", ""}, {`\0`, -1, `\0`, ""}, {`\0`, 100, `\0`, ""}, {"99", 100, "0", ""},
}

func TestPutEdges(t *testing.T) {
	for _, c := range putCases {
		if c.want == "" {
			putsNot(t, c.text, c.k, c.s)
		} else {
			puts(t, c.text, c.k, c.s, c.want)
		}
	}
}

func TestPutAsModel(t *testing.T) {
	d := &dice{state: 1373}
	terms := append(drawnTerms(1381, 400, 25), drawnTerms(1399, 100, 150)...)
	for _, c := range putCases {
		terms = append(terms, nodesIn(c.text), nodesIn(c.s))
	}
	numbers := append(wrongInts(), 0, 0, 0, 0, 1, 1, 1, 2, 2, 3, 4, 5, 97, 98, 99, 100)
	put, refusedOnes := 0, 0
	for _, l := range terms {
		for range 60 {
			k, s := numbers[d.below(len(numbers))], terms[d.below(len(terms))]
			want, wantOk := modelSubst(l, k, s)
			got, ok := impl.SubstTerm(l, k, s)
			toldTerm(t, fmt.Sprintf("SubstTerm(%s, %d, %s)", spell(l), k, spell(s)), got, ok, want, wantOk)
			if ok && slices.Contains(modelFree(l), k) {
				put++
			} else if !ok && k >= 0 && k <= 99 {
				refusedOnes++
			}
		}
	}
	if put < 3000 || refusedOnes < 300 {
		t.Errorf("%d are put in, %d can not be", put, refusedOnes)
	}
}

// The substitution lemma. A term that stands behind another one is put in for 1 with its free variables one up: 0 is
// still the variable of the other one there.
func TestSubstitutionLemma(t *testing.T) {
	terms := drawnTerms(1409, 6000, 16)
	held, closed := 0, 0
	for at := 0; at+2 < len(terms); at++ {
		l, s, r := terms[at], terms[at+1], terms[at+2]
		first, ok := impl.SubstTerm(l, 0, s)
		if !ok {
			continue
		}
		left, ok := impl.SubstTerm(first, 0, r)
		if !ok {
			continue
		}
		up, _ := impl.ShiftTerm(r, 1, 0)
		behind, behindOk := impl.SubstTerm(l, 1, up)
		inner, innerOk := impl.SubstTerm(s, 0, r)
		if !behindOk || !innerOk {
			continue
		}
		right, ok := impl.SubstTerm(behind, 0, inner)
		what := fmt.Sprintf("%s with %s and %s", spell(l), spell(s), spell(r))
		toldTerm(t, what, right, ok, left, true)
		if free := modelFree(l); slices.Contains(free, 0) && slices.Contains(free, 1) && slices.Contains(modelFree(s), 0) {
			held++
		}
		// Without free variables nothing is to be shifted.
		if len(modelFree(r)) == 0 {
			closed++
			behind, _ := impl.SubstTerm(l, 1, r)
			right, ok := impl.SubstTerm(behind, 0, inner)
			toldTerm(t, what+", which is closed", right, ok, left, true)
		}
	}
	if held < 300 || closed < 100 {
		t.Errorf("%d terms had both put in, %d a closed one", held, closed)
	}
}
