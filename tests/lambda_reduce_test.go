package tests

import (
	"fmt"
	"math"
	"slices"
	"strings"
	"testing"

	"loop.example/g00201/impl"
)

// selfApplied has no normal form: it is reduced to itself. growing is reduced to ever greater terms.
const (
	selfApplied = `(\(0 0) \(0 0))`
	growingTerm = `(\((0 0) 0) \((0 0) 0))`
)

func TestRedexesByHand(t *testing.T) {
	for text, want := range map[string][]int{
		"0": nil, `\0`: nil, "(0 1)": nil, `(0 \0)`: nil, `((0 1) \0)`: nil, `(\0 1)`: {0}, `\(\0 1)`: {1}, `(0 (\0 1))`: {2}, `((\0 1) 2)`: {1}, `((\\0 1) 2)`: {1},
		// Redexes within the lambda, and within the second part.
		`(\(\0 0) 1)`: {0, 2}, `(\0 (\0 1))`: {0, 3}, `(\(0 0) (\0 3))`: {0, 5}, `(\(\0 (\0 0)) (\0 1))`: {0, 2, 5, 9}, identities(5, "0"): {0, 3, 6, 9, 12}, `((\0 \0) (\0 1))`: {1, 6}, selfApplied: {0},
	} {
		if got, ok := impl.RedexesIn(nodesIn(text)); !slices.Equal(got, want) || !ok {
			t.Errorf("RedexesIn(%s): %v, %v; wanted %v", text, got, ok, want)
		}
	}
}

// reduceCases are terms with the number of a redex, and what they are then; nothing where there is none or it is not good.
var reduceCases = []struct {
	text string
	k    int
	want string
}{
	{`(\0 5)`, 0, "5"}, {`(\1 5)`, 0, "0"}, {`(\7 5)`, 0, "6"}, {`(\(0 0) (\0 3))`, 0, `((\0 3) (\0 3))`}, {`(\(0 0) (\0 3))`, 5, `(\(0 0) 3)`}, {`(\(\0 0) 1)`, 0, `(\0 1)`}, {`(\(\0 0) 1)`, 2, `(\0 1)`},
	{`(\\(0 (1 2)) \(0 4))`, 0, `\(0 (\(0 5) 1))`}, {`\(\\(0 (1 2)) (0 3))`, 1, `\\(0 ((1 4) 1))`}, {`((\\1 5) 6)`, 1, `(\6 6)`}, {`((\0 \0) (\0 1))`, 6, `((\0 \0) 1)`}, {`((\0 \0) (\0 1))`, 1, `(\0 (\0 1))`}, {selfApplied, 0, selfApplied},
	// No redex of this number.
	{"0", 0, ""}, {`\0`, 0, ""}, {"(0 1)", 0, ""}, {`(\0 5)`, 1, ""}, {`(\0 5)`, 2, ""}, {`(\0 5)`, 3, ""}, {`(\0 5)`, 4, ""}, {`(\0 5)`, -1, ""}, {`(\0 5)`, 1000, ""}, {`(\0 5)`, math.MaxInt, ""}, {`(\0 5)`, math.MinInt, ""}, {`((\\1 5) 6)`, 0, ""}, {`(0 \0)`, 0, ""}, {`(\(\0 0) 1)`, 1, ""}, {`(\(\0 0) 1)`, 3, ""},
	// Too many nodes, too deep, too great a number; and what is dropped does not count.
	{`(\(0 0) ` + bushy(74, 1) + ")", 0, "(" + bushy(74, 1) + " " + bushy(74, 1) + ")"}, {`\(\(0 0) ` + bushy(74, 1) + ")", 1, `\(` + bushy(74, 1) + " " + bushy(74, 1) + ")"}, {`\\(\(0 0) ` + bushy(74, 1) + ")", 2, ""}, {`(\(0 0) ` + bushy(75, 1) + ")", 0, ""}, {`(\5 ` + bushy(145, 1) + ")", 0, "4"},
	{"(" + lambdas(31, "30") + " " + lambdas(9, "0") + ")", 0, lambdas(39, "0")}, {"(" + lambdas(31, "30") + " " + lambdas(10, "0") + ")", 0, ""}, {"(" + lambdas(31, "29") + " " + lambdas(38, "0") + ")", 0, lambdas(30, "29")}, {`\(` + lambdas(31, "30") + " " + lambdas(9, "0") + ")", 1, ""},
	{`(\\1 98)`, 0, `\99`}, {`(\\1 99)`, 0, ""}, {`(\\0 99)`, 0, `\0`}, {`(\(\\1 99) 0)`, 2, ""}, {`(\(\\1 99) 0)`, 0, `(\\1 98)`}, {`(0 (\\1 99))`, 2, ""},
}

func TestReduceEdges(t *testing.T) {
	for _, c := range reduceCases {
		if c.want == "" {
			reducesNot(t, c.text, c.k)
		} else {
			reducesTo(t, c.text, c.k, c.want)
		}
	}
}

func TestReduceAsModel(t *testing.T) {
	terms := append(drawnTerms(1423, 2000, 25), drawnTerms(1427, 200, 150)...)
	for _, c := range reduceCases {
		terms = append(terms, nodesIn(c.text))
	}
	reduced, grown := 0, 0
	for _, l := range terms {
		redexes := modelRedexes(l)
		if got, ok := impl.RedexesIn(l); !slices.Equal(got, redexes) || !ok {
			t.Errorf("RedexesIn(%s): %v, %v; wanted %v", spell(l), got, ok, redexes)
		}
		for k := -2; k <= len(l)+2; k++ {
			want, wantOk := modelReduceAt(l, k)
			got, ok := impl.ReduceAt(l, k)
			toldTerm(t, fmt.Sprintf("ReduceAt(%s, %d)", spell(l), k), got, ok, want, wantOk)
			if ok {
				reduced++
			} else if slices.Contains(redexes, k) {
				grown++
			}
		}
	}
	if reduced < 3000 || grown < 20 {
		t.Errorf("%d are reduced, %d can not be", reduced, grown)
	}
}

// A redex is reduced as SubstTerm of 0 does it with its parts.
func TestReduceIsSubst(t *testing.T) {
	terms := drawnTerms(1429, 2000, 20)
	for at := range len(terms) - 1 {
		body, second := terms[at], terms[at+1]
		want, wantOk := impl.SubstTerm(body, 0, second)
		got, ok := impl.ReduceAt(nodesIn(`(\`+spell(body)+" "+spell(second)+")"), 0)
		toldTerm(t, fmt.Sprintf(`(\%s %s)`, spell(body), spell(second)), got, ok, want, wantOk)
	}
}

// developCases are terms and what they are developed to; nothing where that, or what a part comes to, is not good.
var developCases = [][2]string{
	{"0", "0"}, {"99", "99"}, {`\0`, `\0`}, {"(0 1)", "(0 1)"}, {`\(0 \(1 0))`, `\(0 \(1 0))`}, {`(\0 5)`, "5"}, {`\(\0 5)`, `\5`}, {`(0 (\0 5))`, "(0 5)"}, {`((\0 5) 0)`, "(5 0)"}, {`((\0 1) (\0 2))`, "(1 2)"},
	{`(\(0 0) (\0 3))`, "(3 3)"}, {`(\(\0 0) 1)`, "1"}, {`(\(\0 (\0 0)) (\0 1))`, "1"}, {identities(20, "7"), "7"}, {`(\\(0 (1 2)) (\0 4))`, `\(0 (5 1))`}, {`(\(0 (\\1 0)) (\0 8))`, `(8 \9)`},
	// Redexes that come up by reducing stay.
	{`((\0 \0) 5)`, `(\0 5)`}, {`((\\1 5) 6)`, `(\6 6)`}, {`(\(0 5) \0)`, `(\0 4)`}, {`(\(0 (\0 5)) (\0 \0))`, `(\0 4)`}, {selfApplied, selfApplied}, {`((\0 \(0 0)) \(0 0))`, selfApplied},
	// Too many nodes, too deep, too great a number.
	{`\(\(0 0) ` + bushy(74, 1) + ")", `\(` + bushy(74, 1) + " " + bushy(74, 1) + ")"}, {`\\(\(0 0) ` + bushy(74, 1) + ")", ""}, {`(\(0 0) ` + bushy(75, 1) + ")", ""}, {"(" + lambdas(31, "30") + " " + lambdas(9, "0") + ")", lambdas(39, "0")}, {"(" + lambdas(31, "30") + " " + lambdas(10, "0") + ")", ""}, {`(\\1 98)`, `\99`}, {`(\\1 99)`, ""},
	// Only what a part comes to is not good: the second part, which is dropped, or the lambda's, whose number goes down again.
	{`(\5 (\(0 0) ` + bushy(74, 1) + "))", "4"}, {`(\5 (\(0 0) ` + bushy(75, 1) + "))", ""}, {`(\5 (` + lambdas(31, "30") + " " + lambdas(9, "0") + "))", "4"}, {`(\5 (` + lambdas(31, "30") + " " + lambdas(10, "0") + "))", ""}, {`(\5 (\\1 98))`, "4"}, {`(\5 (\\1 99))`, ""},
	{`(\(\\1 98) 0)`, `\98`}, {`(\(\\1 99) 0)`, ""}, {`((\\1 5) (\\1 99))`, ""}, {`(\\1 (\5 (\\1 99)))`, ""},
}

func TestDevelopEdges(t *testing.T) {
	for _, c := range developCases {
		if c[1] == "" {
			developsNot(t, c[0])
		} else {
			develops(t, c[0], c[1])
		}
	}
}

// The lambda of a redex is a part, too: developed it may have a node too many, or be one too deep, where neither its own
// part nor the whole is.
func TestDevelopOfLambdasThatAreTooBig(t *testing.T) {
	many := `\(\(0 0) ` + bushy(74, 2) + ")"
	develops(t, many, `\(`+bushy(74, 2)+" "+bushy(74, 2)+")")
	developsNot(t, `\`+many)
	developsNot(t, `(\`+many+" 0)")
	less := `(\(0 0) ` + bushy(74, 2) + ")"
	develops(t, `(\`+less+" 0)", "("+bushy(74, 1)+" "+bushy(74, 1)+")")
	deep := "(" + lambdas(31, "30") + " " + lambdas(9, "0") + ")"
	develops(t, deep, lambdas(39, "0"))
	developsNot(t, `\`+deep)
	developsNot(t, `(\`+deep+" 0)")
	less = "(" + lambdas(31, "30") + " " + lambdas(8, "0") + ")"
	develops(t, `(\`+less+" 0)", lambdas(38, "0"))
}

func TestDevelopAsModel(t *testing.T) {
	terms := append(drawnTerms(1433, 3000, 30), drawnTerms(1439, 500, 150)...)
	for _, c := range developCases {
		terms = append(terms, nodesIn(c[0]))
	}
	told, grown, left := 0, 0, 0
	for _, l := range terms {
		want, wantOk := modelDevelop(l)
		got, ok := impl.DevelopTerm(l)
		toldTerm(t, fmt.Sprintf("DevelopTerm(%s)", spell(l)), got, ok, want, wantOk)
		switch {
		case !ok:
			grown++
		case len(modelRedexes(l)) > 1:
			told++
			if len(modelRedexes(got)) > 0 {
				left++
			}
		}
	}
	if told < 1000 || grown < 10 || left < 300 {
		t.Errorf("%d with several redexes are developed, %d can not be, %d have redexes that came up", told, grown, left)
	}
}

// reductCases are terms with all their reducts.
var reductCases = [][]string{
	{"0", "0"}, {`\0`, `\0`}, {"(0 1)", "(0 1)"}, {`(\0 5)`, `(\0 5)`, "5"}, {`\(\0 5)`, `\(\0 5)`, `\5`},
	{`(\(0 0) (\0 3))`, `((\0 3) (\0 3))`, "(3 3)", `(\(0 0) (\0 3))`, `(\(0 0) 3)`},
	// Two ways to the same term.
	{`(\0 (\0 5))`, `(\0 (\0 5))`, `(\0 5)`, "5"}, {`(\(\0 0) 1)`, `(\(\0 0) 1)`, `(\0 1)`, "1"}, {selfApplied, selfApplied}, {`(\(0 0) (\0 \(0 0)))`, `((\0 \(0 0)) (\0 \(0 0)))`, `(\(0 0) (\0 \(0 0)))`, `(\(0 0) \(0 0))`},
	// What comes up by reducing stays; both parts by themselves.
	{`((\0 \0) 5)`, `((\0 \0) 5)`, `(\0 5)`}, {`((\\1 5) 6)`, `((\\1 5) 6)`, `(\6 6)`}, {`((\0 1) (\0 2))`, `((\0 1) (\0 2))`, `((\0 1) 2)`, `(1 (\0 2))`, "(1 2)"},
	// A dropped second part, reduced or not, makes one term.
	{`(\5 (\0 1))`, `(\5 (\0 1))`, `(\5 1)`, "4"},
	// Rising by bytes, not by numbers or lengths.
	{`(\0 10)`, `(\0 10)`, "10"}, {`(2 (\\1 9))`, `(2 (\\1 9))`, `(2 \10)`},
}

func TestReductsByHand(t *testing.T) {
	for _, c := range reductCases {
		hasReducts(t, c[0], c[1:]...)
	}
}

// So many identities around each other make one reduct more; parts make products.
func TestReductsUpToMaxReducts(t *testing.T) {
	many := func(text string, want int) {
		t.Helper()
		got, ok := impl.ReductsOf(nodesIn(text))
		if len(got) != want || ok != (want > 0) {
			t.Errorf("ReductsOf(%s): %d texts, %v; wanted %d", short(text), len(got), ok, want)
		}
		if len(modelRedexes(nodesIn(text))) > 8 {
			return
		}
		if model, modelOk := modelReducts(nodesIn(text)); !slices.Equal(got, model) || ok != modelOk {
			t.Errorf("ReductsOf(%s): not those of the model", short(text))
		}
	}
	both := func(a int, b int) string { return "(" + identities(a, "0") + " " + identities(b, "1") + ")" }
	many(identities(11, "0"), 12)
	many(both(7, 7), 64)
	many(both(4, 12), 0)
	many(both(6, 8), 63)
	many(both(12, 4), 0)
	many(`\`+both(7, 7), 64)
	many("(0 "+both(7, 7)+")", 64)
	many("("+both(7, 7)+" 0)", 64)
	many(`\`+both(4, 12), 0)
	many("(0 "+both(4, 12)+")", 0)
	many("("+both(4, 12)+" 0)", 0)
	row := func(redexes int) string {
		return strings.Repeat(`((\0 1) `, redexes) + "0" + strings.Repeat(")", redexes)
	}
	many(row(1), 2)
	many(row(5), 32)
	many(row(6), 64)
	many(row(7), 0)
	many(`(\0 `+row(5)+")", 64)
	many(`(\0 `+row(6)+")", 0)
	many("("+row(6)+` (\0 1))`, 0)
	// 33 in the second part: with the redex itself reduced or not, 66, or 33 and one where it is dropped.
	second := "(" + identities(2, "0") + " " + identities(10, "1") + ")"
	many(second, 33)
	many(`(\(0 0) `+second+")", 0)
	many(`(\5 `+second+")", 34)
	second = "(" + identities(1, "0") + " " + identities(15, "1") + ")"
	many(second, 32)
	many(`(\(0 0) `+second+")", 64)
	// 63 and the one where they are dropped are just as many as may be; 64 are one too many.
	many(`(\5 `+both(6, 8)+")", 64)
	many(`(\5 `+both(7, 7)+")", 0)
}

// Where any reduct of the whole or of a part is not good there is none.
func TestReductsThatAreNotGood(t *testing.T) {
	for _, c := range developCases {
		if c[1] == "" {
			noReducts(t, c[0])
		}
	}
	noReducts(t, `\\(\(0 0) `+bushy(74, 1)+")")
	hasReducts(t, `(\5 `+bushy(145, 1)+")", `(\5 `+bushy(145, 1)+")", "4")
	// Only one of several is not good: with the second part as it is there is one node too many.
	inner := `(\0 ` + bushy(72, 1) + ")"
	noReducts(t, `(\(0 0) `+inner+")")
	noReducts(t, `(\(\\1 99) 0)`)
	noReducts(t, `(\(\(\\2 0) 0) 99)`)
	develops(t, `(\(0 0) `+inner+")", "("+bushy(72, 1)+" "+bushy(72, 1)+")")
}

func TestReductsAsModel(t *testing.T) {
	terms := append(drawnTerms(1447, 1500, 25), drawnTerms(1451, 60, 60)...)
	told, none := 0, 0
	for _, l := range terms {
		if len(modelRedexes(l)) > 8 {
			continue
		}
		want, wantOk := modelReducts(l)
		got, ok := impl.ReductsOf(l)
		if !slices.Equal(got, want) || ok != wantOk {
			t.Errorf("ReductsOf(%s): %q, %v; wanted %q, %v", spell(l), got, ok, want, wantOk)
		}
		if !ok {
			none++
		} else if len(got) > 2 {
			told++
		}
	}
	if told < 500 || none < 5 {
		t.Errorf("%d have several reducts, %d have too many", told, none)
	}
}

// Takahashi's triangle: whatever redexes are reduced at once, reducing the others too comes to the developed term.
func TestTriangle(t *testing.T) {
	met := 0
	for _, l := range drawnTerms(1453, 1200, 22) {
		reducts, ok := impl.ReductsOf(l)
		if !ok {
			continue
		}
		developed, ok := impl.DevelopTerm(l)
		if !ok {
			t.Errorf("%s has reducts, but is not developed", spell(l))
			continue
		}
		top := spell(developed)
		if !slices.Contains(reducts, top) || !slices.Contains(reducts, spell(l)) {
			t.Errorf("%s: it, or %s, is not among %q", spell(l), top, reducts)
		}
		for _, text := range reducts {
			inner, ok := impl.ReductsOf(nodesIn(text))
			if !ok {
				continue
			}
			if !slices.Contains(inner, top) {
				t.Errorf("%s: of %s, %s is not among %q", spell(l), text, top, inner)
			}
			met++
		}
		// One redex alone is among them.
		for _, k := range modelRedexes(l) {
			one, ok := impl.ReduceAt(l, k)
			if !ok || !slices.Contains(reducts, spell(one)) {
				t.Errorf("%s: reduced at %d it is not among %q", spell(l), k, reducts)
			}
		}
	}
	if met < 3000 {
		t.Errorf("only %d reducts were looked at", met)
	}
}
