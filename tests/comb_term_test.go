package tests

import (
	"fmt"
	"slices"
	"strings"
	"testing"

	"loop.example/g00201/impl"
)

// combTermCases are terms and their combinators.
var combTermCases = [][2]string{
	// Free variables, under lambdas too.
	{"0", "x0"}, {"7", "x7"}, {"99", "x99"}, {"(0 99)", "(x0 x99)"}, {"((1 2) (3 1))", "((x1 x2) (x3 x1))"}, {`\1`, "(K x0)"}, {`\99`, "(K x98)"}, {`\\99`, "(K (K x97))"}, {`\\(3 (2 99))`, "(K (K (x1 (x0 x97))))"}, {`\(0 (5 1))`, "((S I) (K (x4 x0)))"}, {`(4 \(5 0))`, "(x4 x4)"}, {`\(1 \(2 \(3 0)))`, "(K (x0 (K (x0 x0))))"}, {`\(100 0)`, ""}, {`\(99 0)`, "x98"},
	// One lambda.
	{`\0`, "I"}, {`\(0 0)`, "((S I) I)"}, {`\(1 0)`, "x0"}, {`\(0 1)`, "((S I) (K x0))"}, {`\((0 1) 0)`, "((S ((S I) (K x0))) I)"}, {`\(1 (2 0))`, "((S (K x0)) x1)"}, {`(\0 \(0 0))`, "(I ((S I) I))"},
	// Lambdas within lambdas: the innermost one goes first.
	{`\\1`, "K"}, {`\\0`, "(K I)"}, {`\\(1 0)`, "I"}, {`\\(0 1)`, "((S (K (S I))) K)"}, {`\\\((2 0) (1 0))`, "S"}, {`\\\(2 (1 0))`, "((S (K S)) K)"}, {`\\\((2 0) 1)`, "((S ((S (K S)) ((S (K K)) S))) (K K))"}, {`\\((1 0) 0)`, "((S S) (K I))"}, {`\\\2`, "((S (K K)) K)"}, {`\\\1`, "(K K)"}, {`\\\0`, "(K (K I))"}, {`\(0 \1)`, "((S I) K)"}, {`\(\0 0)`, "I"}, {`\(\1 0)`, "((S K) I)"},
	{`\(0 \(1 0))`, "((S I) I)"}, {`\(0 \(0 1))`, "((S I) ((S (K (S I))) K))"}, {selfApplied, "(((S I) I) ((S I) I))"}, {`\\(1 (0 0))`, "((S ((S (K S)) K)) (K ((S I) I)))"},
}

func TestCombOfTermByHand(t *testing.T) {
	for _, c := range combTermCases {
		combOfTerm(t, c[0], c[1])
	}
}

// spread applies some texts to each other, nowhere deeper than it must be.
func spread(leaves []string) string {
	if len(leaves) == 1 {
		return leaves[0]
	}
	half := len(leaves) / 2
	return "(" + spread(leaves[:half]) + " " + spread(leaves[half:]) + ")"
}

// manyLeaves are a term of ten lambdas and some free variables, and its combinator, of 179 nodes and two for each.
func manyLeaves(free int, term string, comb string) (string, string) {
	terms, combs := slices.Repeat([]string{`\\(1 (0 0))`}, 10), slices.Repeat([]string{"((S ((S (K S)) K)) (K ((S I) I)))"}, 10)
	return spread(append(terms, slices.Repeat([]string{term}, free)...)), spread(append(combs, slices.Repeat([]string{comb}, free)...))
}

func TestCombOfTermOfManyNodes(t *testing.T) {
	for free := 1; free < 15; free++ {
		term, comb := manyLeaves(free, "4", "x4")
		if nodes := len(combIn(comb)); nodes != 179+2*free || len(nodesIn(term)) > 150 {
			t.Fatalf("it has %d nodes", nodes)
		}
		inner, _ := manyLeaves(free, "5", "x4")
		toldIf := func(good bool, term string, comb string) {
			t.Helper()
			if !good {
				comb = ""
			}
			combOfTerm(t, term, comb)
		}
		toldIf(free <= 10, term, comb)
		toldIf(free <= 9, "(3 "+term+")", "(x3 "+comb+")")
		// The outcome has two nodes more than its part, or six.
		toldIf(free <= 9, `\`+inner, "(K "+comb+")")
		toldIf(free <= 7, `\(0 `+inner+")", "((S I) (K "+comb+"))")
		// The part has two more than the outcome, which would be good with one free variable more.
		toldIf(free <= 9, `\(`+inner+" 0)", comb)
		toldIf(free <= 9, `(1 \(`+inner+" 0))", "(x1 "+comb+")")
	}
}

// A row of one variable makes a combinator twice as deep and one more: 29 of them make 59, one application 60.
func TestCombOfTermOfDeepNodes(t *testing.T) {
	row := func(many int) (string, string) {
		return `\` + appliedTo("0", many, "0"), strings.Repeat("((S ", many) + "I" + strings.Repeat(") I)", many)
	}
	term, comb := row(29)
	combOfTerm(t, term, comb)
	combOfTerm(t, "(7 "+term+")", "(x7 "+comb+")")
	combOfTerm(t, "(7 (7 "+term+"))", "")
	combOfTerm(t, "("+term+" 7)", "("+comb+" x7)")
	combOfTerm(t, "(("+term+" 7) 7)", "")
	// The part is good, the outcome one too deep.
	longer, _ := row(30)
	combOfTerm(t, longer, "")
	combOfTerm(t, `\(7 `+term+")", "")
	combOfTerm(t, `\`+term, "(K "+comb+")")
	// The part is one too deep, the outcome would not be.
	combOfTerm(t, `\((7 `+term+") 0)", "")
	combOfTerm(t, `\(`+term+" 0)", comb)
}

// A variable that stands within lambdas makes six nodes for each of them but two.
func TestCombOfTermOfManyLambdas(t *testing.T) {
	outermost := "K"
	for many := 2; many < 40; many++ {
		want := outermost
		if many > 35 {
			want = ""
		}
		combOfTerm(t, lambdas(many, fmt.Sprint(many-1)), want)
		combOfTerm(t, lambdas(many, "0"), behindAll("K", many-1, "I"))
		combOfTerm(t, lambdas(many, "99"), behindAll("K", many, fmt.Sprint("x", 99-many)))
		outermost = "((S (K K)) " + outermost + ")"
	}
	combOfTerm(t, lambdas(40, "0"), "")
}

func TestCombOfTermAsModel(t *testing.T) {
	told, grown := 0, 0
	for _, l := range append(drawnTerms(1747, 6000, 25), drawnTerms(1753, 1500, 150)...) {
		want, wantOk := modelCombOfTerm(l)
		got, ok := impl.CombOfTerm(l)
		toldComb(t, "CombOfTerm "+spell(l), got, ok, want, wantOk)
		if ok {
			told++
		} else {
			grown++
		}
	}
	if told < 3000 || grown < 100 {
		t.Errorf("%d are told, %d can not be", told, grown)
	}
}

// A combinator has the free variables of its term, and no others.
func TestCombOfTermHasNoOtherVariables(t *testing.T) {
	closed, open := 0, 0
	terms := append(drawnTerms(1759, 3000, 25), drawnTerms(1777, 400, 60)...)
	for _, l := range terms {
		// No variable that is drawn is beyond four lambdas.
		terms = append(terms, nodesIn(lambdas(4, spell(l))))
	}
	for _, l := range terms {
		c, ok := impl.CombOfTerm(l)
		if !ok {
			continue
		}
		free, _ := impl.FreeIn(l)
		if got := variablesOf(c); !slices.Equal(got, free) {
			t.Errorf("CombOfTerm(%s): %s, but free are %v", spell(l), spellComb(c), free)
		}
		if len(free) == 0 {
			closed++
		} else {
			open++
		}
	}
	if closed < 2000 || open < 2000 {
		t.Errorf("%d have no variables, %d have", closed, open)
	}
}

// combAsTerm asks for one outcome of a term and of its combinator, where that of the term has no lambda, and says
// whether both end.
func combAsTerm(t *testing.T, l []impl.Term) bool {
	t.Helper()
	normal, _, ok := impl.NormalTerm(l, 1000)
	c, alsoOk := impl.CombOfTerm(l)
	if !ok || !alsoOk || slices.ContainsFunc(normal, func(n impl.Term) bool { return n.Kind == impl.TermLam }) {
		return false
	}
	got, _, ok := impl.NormalComb(c, 1000)
	if !ok {
		return false
	}
	want, ok := impl.CombOfTerm(normal)
	toldComb(t, "the combinator of "+spell(l), got, true, want, ok)
	return true
}

// Closed terms do as combinators what they do as terms, if they are applied to enough variables.
func TestCombOfTermDoesTheSame(t *testing.T) {
	both := 0
	for _, l := range append(drawnTerms(1783, 6000, 20), drawnTerms(1787, 500, 60)...) {
		for _, behind := range []string{"", "9", "(9 8)"} {
			text := spell(l)
			if behind != "" {
				text = appliedTo(text, 3, behind)
			}
			if combAsTerm(t, nodesIn(text)) {
				both++
			}
		}
	}
	if both < 8000 {
		t.Errorf("only %d ended", both)
	}
	for a := range 5 {
		for b := range 5 {
			for at, c := range []string{sumTerm, productTerm} {
				text := "((((" + c + " " + numeral(a) + ") " + numeral(b) + ") 0) 1)"
				if !combAsTerm(t, nodesIn(text)) && a+b < 5 {
					t.Errorf("%s did not end", text)
				}
				many := []int{a + b, a * b}[at]
				l, _ := impl.CombOfTerm(nodesIn(text))
				if got, _, ok := impl.NormalComb(l, 1000); ok && spellComb(got) != behindAll("x0", many, "x1") {
					t.Errorf("%s: %s", text, spellComb(got))
				}
			}
		}
	}
}

// The combinator of a lambda is AbstractComb of that of its part.
func TestCombOfTermIsAbstractComb(t *testing.T) {
	told := 0
	for _, l := range append(drawnTerms(1789, 3000, 25), drawnTerms(1801, 300, 60)...) {
		lambda, ok := impl.CombOfTerm(nodesIn(`\` + spell(l)))
		if !ok {
			continue
		}
		// The lambda's variable is free in its part alone, with the index 0; all others have one more there.
		part, ok := impl.CombOfTerm(l)
		if !ok {
			t.Errorf(`\%s has a combinator, but %s has none`, spell(l), spell(l))
			continue
		}
		want, ok := impl.AbstractComb(part, 0)
		for _, n := range variablesOf(want) {
			want, ok = impl.PutComb(want, n, []impl.Comb{{Kind: impl.CombVar, N: n - 1, Up: -1}})
		}
		toldComb(t, fmt.Sprintf(`CombOfTerm(\%s)`, spell(l)), lambda, true, want, ok)
		told++
	}
	if told < 1500 {
		t.Errorf("only %d are told", told)
	}
}
