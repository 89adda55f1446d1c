package tests

import (
	"fmt"
	"strings"
	"testing"

	"loop.example/g00201/impl"
)

// inferCases are terms and their most general types; none, where that is empty.
var inferCases = [][2]string{
	// A variable has the type of its lambda, the innermost one's or another one's.
	{`\0`, "(t0>t0)"}, {`\\0`, "(t0>(t1>t1))"}, {`\\1`, "(t0>(t1>t0))"}, {`\\\0`, "(t0>(t1>(t2>t2)))"}, {`\\\1`, "(t0>(t1>(t2>t1)))"}, {`\\\2`, "(t0>(t1>(t2>t0)))"},
	// Applications.
	{`\\(1 0)`, "((t0>t1)>(t0>t1))"}, {`\\(0 1)`, "(t0>((t0>t1)>t1))"}, {`\\(1 (1 0))`, "((t0>t0)>(t0>t0))"}, {`\\((1 0) 0)`, "((t0>(t0>t1))>(t0>t1))"}, {`\\\((2 0) (1 0))`, "((t0>(t1>t2))>((t0>t1)>(t0>t2)))"}, {`\\\(2 (1 0))`, "((t0>t1)>((t2>t0)>(t2>t1)))"}, {`\\\((2 0) 1)`, "((t0>(t1>t2))>(t1>(t0>t2)))"}, {`\\\((0 2) 1)`, "(t0>(t1>((t0>(t1>t2))>t2)))"}, {`\(0 \0)`, "(((t0>t0)>t1)>t1)"}, {`\(0 \\1)`, "(((t0>(t1>t0))>t2)>t2)"}, {`\((0 \0) \\0)`, "(((t0>t0)>((t1>(t2>t2))>t3))>t3)"},
	{`\\((0 1) 1)`, "(t0>((t0>(t0>t1))>t1))"}, {`\\(0 (1 0))`, "(((t0>t1)>t0)>((t0>t1)>t1))"}, {`\\\\((3 1) (2 0))`, "((t0>(t1>t2))>((t3>t1)>(t0>(t3>t2))))"}, {`\(0 \(1 \0))`, "(((t0>t0)>t0)>t0)"}, {`\\(1 \(1 \1))`, "(((t0>t1)>t2)>(((t3>t0)>t1)>t2))"},
	// Redexes.
	{`(\0 \0)`, "(t0>t0)"}, {`(\\1 \0)`, "(t0>(t1>t1))"}, {`(\\0 \0)`, "(t0>t0)"}, {`\(\0 0)`, "(t0>t0)"}, {`\(\1 0)`, "(t0>t0)"}, {`(\(0 \0) \0)`, "(t0>t0)"}, {`(\\(1 0) \0)`, "(t0>t0)"}, {`((\\\((2 0) (1 0)) \\1) \\1)`, "(t0>t0)"}, {`((\\\((2 0) (1 0)) \\1) \0)`, "(t0>t0)"}, {`(\\((0 1) 1) \0)`, "(((t0>t0)>((t0>t0)>t1))>t1)"},
	// What is bound later is put into what was there before.
	{`\\\(((2 1) 0) (1 0))`, "(((t0>t1)>(t0>(t1>t2)))>((t0>t1)>(t0>t2)))"}, {`\\((1 0) (0 1))`, ""}, {`\\((1 0) \(1 0))`, "(((t0>t1)>((t0>t1)>t2))>((t0>t1)>t2))"}, {`\\\((2 (1 0)) (0 \0))`, "((t0>(t1>t2))>((((t3>t3)>t1)>t0)>(((t3>t3)>t1)>t2)))"}, {`\(\(0 0) 0)`, ""}, {`\\(\(2 (1 0)) 0)`, ""}, {`\\(\(2 (2 0)) 0)`, "((t0>t0)>(t0>t0))"}, {`\\(\(0 (2 0)) 0)`, "(((t0>t1)>t0)>((t0>t1)>t1))"}, {`\\(\(0 (2 1)) 0)`, "(((t0>t1)>t0)>((t0>t1)>t1))"},
	// A variable that is applied to itself, and terms around that; a lambda's variable has one type alone.
	{`\(0 0)`, ""}, {`(\(0 0) \(0 0))`, ""}, {`\\(0 0)`, ""}, {`(\\0 \(0 0))`, ""}, {`\(\(0 0) \0)`, ""}, {`(\(0 0) \0)`, ""}, {`\(0 (0 0))`, ""}, {`\((0 0) 0)`, ""}, {`\\((1 0) 1)`, ""}, {`\\(1 (0 1))`, "((t0>t1)>(((t0>t1)>t0)>t1))"}, {`\(\(1 (0 0)) \(1 (0 0)))`, ""}, {`(\((0 \0) (0 \\0)) \0)`, ""}, {`\((0 \0) (0 \\0))`, ""}, {`\(0 \(1 0))`, ""}, {`\\(0 (0 1))`, "(t0>((t0>t0)>t0))"}, {`\\((0 1) (0 0))`, ""},
}

func TestInferTermByHand(t *testing.T) {
	for _, c := range inferCases {
		infers(t, c[0], c[1])
		if want, _, _ := modelInfer(nodesIn(c[0])); want != c[1] {
			t.Errorf("the model infers %s for %s, not %s", want, c[0], c[1])
		}
		hasType(t, c[0], "t0", false)
		if c[1] == "" {
			hasType(t, c[0], "(t0>t0)", false)
			hasType(t, c[0], "(t0>t1)", false)
			continue
		}
		hasType(t, c[0], c[1], true)
		hasType(t, c[0], strings.ReplaceAll(c[1], "t0", "t999"), true)
		hasType(t, c[0], strings.ReplaceAll(c[1], "t0", "(t1>t0)"), true)
		hasType(t, c[0], strings.ReplaceAll(c[1], "t1", "t0"), true)
		hasNoType(t, nodesIn(c[0]), c[1][1:len(c[1])-1])
	}
}

// hasNoType asks for the zero answer, as the term or the type is none.
func hasNoType(t *testing.T, l []impl.Term, s string) {
	t.Helper()
	if is, ok := impl.HasType(l, s); is || ok {
		t.Errorf("HasType(%s, %s): %v, %v; wanted the zero answer", short(fmt.Sprint(l)), short(s), is, ok)
	}
}

func TestHasTypeByHand(t *testing.T) {
	for _, c := range []struct {
		text string
		s    string
		want bool
	}{
		{`\0`, "(t0>t0)", true}, {`\0`, "(t7>t7)", true}, {`\0`, "((t5>t5)>(t5>t5))", true}, {`\0`, "(t0>t1)", false}, {`\0`, "t0", false}, {`\0`, "((t0>t1)>(t1>t0))", false}, {`\0`, "(t0>(t0>t0))", false}, {`\0`, "((t0>t0)>t0)", false},
		{`\\1`, "(t0>(t1>t0))", true}, {`\\1`, "(t1>(t0>t1))", true}, {`\\1`, "(t0>(t0>t0))", true}, {`\\1`, "(t0>(t1>t1))", false}, {`\\1`, "((t0>t1)>(t1>(t0>t1)))", true}, {`\\1`, "(t0>t1)", false}, {`\\0`, "(t0>(t0>t0))", true}, {`\\0`, "(t0>(t1>t0))", false},
		{`\\(1 0)`, "((t0>t1)>(t0>t1))", true}, {`\\(1 0)`, "(t0>t0)", false}, {`\\(1 0)`, "((t3>t3)>(t3>t3))", true}, {`\\(1 (1 0))`, "((t0>t1)>(t0>t1))", false}, {`\\(1 (1 0))`, "((t0>t0)>(t0>t0))", true}, {`(\0 \0)`, "(t4>t4)", true}, {`(\0 \0)`, "(t4>t5)", false}, {`\(0 0)`, "(t0>t1)", false}, {`\(0 0)`, "t0", false}, {`\(0 0)`, "((t0>t0)>t0)", false},
		{`\0`, "(" + wideType(99, "t3") + ">" + wideType(99, "t3") + ")", true}, {`\0`, "(" + wideType(97, "t3") + ">" + wideType(99, "t3") + ")", false}, {`\0`, "(" + arrowsTo(58, "t1", "t2") + ">" + arrowsTo(58, "t1", "t2") + ")", false},
	} {
		if impl.GoodType(c.s) {
			hasType(t, c.text, c.s, c.want)
		} else {
			hasNoType(t, nodesIn(c.text), c.s)
		}
	}
	deep := arrowsTo(39, "t1", "t2")
	hasType(t, `\0`, "("+deep+">"+deep+")", true)
	for _, s := range []string{"", "t", "t1000", "t00", "(t0>t0", "(t0>t0))", "(t0>t0) ", "(t0 t0)", "()", wideType(201, "t0"), arrowsTo(60, "t0", "t0")} {
		hasNoType(t, nodesIn(`\0`), s)
		hasNoType(t, nodesIn(`\(0 0)`), s)
		hasNoType(t, nodesIn("0"), s)
	}
}

// Terms with free variables and lists that are no good terms have the zero answer, whatever the type.
func TestInferTermOfOtherLists(t *testing.T) {
	var lists [][]impl.Term
	for _, text := range []string{"0", "1", "99", `\1`, `\\2`, `\99`, "(0 0)", `(\0 0)`, `(0 \0)`, `\(0 1)`, `\(1 0)`, `(\0 \1)`, `\(\0 1)`, `\\\(0 (1 (2 3)))`, `(\\(1 0) \(0 1))`} {
		lists = append(lists, nodesIn(text))
	}
	for _, l := range append(lists, wrongTerms()...) {
		got, ok := impl.InferTerm(l)
		refused(t, "InferTerm "+short(fmt.Sprint(l)), got, ok)
		for _, s := range []string{"t0", "(t0>t0)", "(t0>(t1>t0))", "", "t"} {
			hasNoType(t, l, s)
		}
	}
}

// eachClosed gives all terms of just so many nodes without free variables.
func eachClosed(nodes int, around int) []string {
	var out []string
	switch {
	case nodes == 1:
		for n := range around {
			out = append(out, fmt.Sprint(n))
		}
		return out
	case nodes == 0:
		return nil
	}
	for _, part := range eachClosed(nodes-1, around+1) {
		out = append(out, `\`+part)
	}
	for first := 1; first < nodes-1; first++ {
		seconds := eachClosed(nodes-1-first, around)
		for _, a := range eachClosed(first, around) {
			for _, b := range seconds {
				out = append(out, "("+a+" "+b+")")
			}
		}
	}
	return out
}

// infersAsModel holds InferTerm of a good term without free variables against the graph, and says whether it is told.
// Whether types of thousands of nodes come up hangs on the way there; that is left to other tests.
func infersAsModel(t *testing.T, l []impl.Term) bool {
	t.Helper()
	want, most, _ := modelInfer(l)
	got, ok := impl.InferTerm(l)
	if most > 4000 && (got == want || !ok) {
		return ok
	}
	isTypeText(t, "InferTerm "+spell(l), got, ok, want)
	return ok
}

func TestInferTermOfAllSmallTerms(t *testing.T) {
	told, none := 0, 0
	for nodes := 2; nodes <= 9; nodes++ {
		for _, text := range eachClosed(nodes, 0) {
			if infersAsModel(t, nodesIn(text)) {
				told++
			} else {
				none++
			}
		}
	}
	if told < 1500 || none < 800 {
		t.Errorf("%d have a type, %d have none", told, none)
	}
}

func TestInferTermAsModel(t *testing.T) {
	told, none := 0, 0
	for _, l := range closed(append(drawnTerms(2089, 8000, 16), drawnTerms(2099, 2000, 60)...)) {
		if infersAsModel(t, l) {
			told++
		} else {
			none++
		}
	}
	if told < 2000 || none < 2000 {
		t.Errorf("%d have a type, %d have none", told, none)
	}
}

// typedTerms are terms that have a type, many of them made by applying others to one another.
func typedTerms(state uint64, many int) [][]impl.Term {
	d := &dice{state: state}
	texts := []string{`\0`, `\\1`, `\\0`, `\\\((2 0) (1 0))`, `\\\(2 (1 0))`, `\\\((2 0) 1)`, `\\((1 0) 0)`, `\\(0 1)`, `\(0 \0)`, `\\((0 1) 1)`, numeral(2), numeral(3), sumTerm, productTerm}
	var out [][]impl.Term
	for len(out) < many {
		text := ""
		switch d.below(4) {
		case 0:
			text = d.term(2+d.below(12), 0, 1)
		case 1:
			text = fmt.Sprintf(`\((0 %s) %s)`, texts[d.below(len(texts))], texts[d.below(len(texts))])
		default:
			text = fmt.Sprintf("(%s %s)", texts[d.below(len(texts))], texts[d.below(len(texts))])
		}
		for _, l := range closed([][]impl.Term{nodesIn(text)}) {
			if _, ok := impl.InferTerm(l); ok {
				out = append(out, l)
				if len(l) < 40 && d.below(3) == 0 {
					texts = append(texts, spell(l))
				}
			}
		}
	}
	return out
}

// A term has the type that is told and all instances of it, and no others.
func TestTermsHaveInstancesAlone(t *testing.T) {
	d := &dice{state: 2111}
	has, hasNot := 0, 0
	for _, l := range typedTerms(2113, 2500) {
		infersAsModel(t, l)
		s, _ := impl.InferTerm(l)
		if plain, ok := impl.PlainType(s); plain != s || !ok {
			t.Errorf("InferTerm %s: %s is not plain", spell(l), s)
		}
		hasType(t, spell(l), s, true)
		var tried []string
		if made, ok := impl.ApplyType(d.binds(6, 4), s); ok {
			hasType(t, spell(l), made, true)
			tried = append(tried, made)
		}
		from, to := typeParts(s)
		tried = append(tried, d.typ(1+d.below(6), 2), from, to, "("+s+">"+s+")")
		if other, ok := impl.ApplyType(d.binds(4, 2), "("+to+">"+from+")"); ok {
			tried = append(tried, other)
		}
		for _, special := range tried {
			if !modelGoodType(special) {
				continue
			}
			want := modelInstance(s, special)
			hasType(t, spell(l), special, want)
			if want {
				has++
			} else {
				hasNot++
			}
		}
	}
	if has < 2000 || hasNot < 2000 {
		t.Errorf("%d are had, %d are not", has, hasNot)
	}
}

// What a term with a type is reduced to has that type, too, and there is an end of reducing it.
func TestTypesStayWhenReduced(t *testing.T) {
	reduced, ended := 0, 0
	for _, l := range typedTerms(2129, 2500) {
		s, _ := impl.InferTerm(l)
		redexes, _ := impl.RedexesIn(l)
		for _, k := range redexes {
			if next, ok := impl.ReduceAt(l, k); ok {
				hasType(t, spell(next), s, true)
				reduced++
			}
		}
		if next, ok := impl.DevelopTerm(l); ok {
			hasType(t, spell(next), s, true)
		}
		if normal, _, ok := impl.NormalTerm(l, 1000); ok {
			hasType(t, spell(normal), s, true)
			ended++
		}
	}
	if reduced < 1500 || ended < 2000 {
		t.Errorf("%d redexes were reduced, %d terms ended", reduced, ended)
	}
}

// An application has the type that UnifyTypes tells of those of its parts, where this can tell it.
func TestInferTermIsUnifyTypes(t *testing.T) {
	d := &dice{state: 2131}
	terms := typedTerms(2137, 300)
	var apart []impl.Bind
	for n := range 100 {
		apart = append(apart, impl.Bind{Var: n, Type: fmt.Sprint("t", n+100)})
	}
	told, none := 0, 0
	for range 3000 {
		f, x := terms[d.below(len(terms))], terms[d.below(len(terms))]
		l := nodesIn("(" + spell(f) + " " + spell(x) + ")")
		if !modelGoodTerm(l) {
			continue
		}
		first, _ := impl.InferTerm(f)
		second, _ := impl.InferTerm(x)
		second, _ = impl.ApplyType(apart, second)
		binds, ok := impl.UnifyTypes(first, "("+second+">t999)")
		_, most, typed := modelInfer(l)
		switch {
		case ok && most <= 4000:
			own, _ := impl.ApplyType(binds, "t999")
			infers(t, spell(l), modelPlain(own))
			told++
		case !ok && !typed:
			infers(t, spell(l), "")
			none++
		}
	}
	if told < 500 || none < 500 {
		t.Errorf("%d applications have a type, %d have none", told, none)
	}
}

// twiceTerm has the type of something that takes another one two times: its type has twice the nodes and five.
func twiceTerm(text string) string { return `(\\((0 1) 1) ` + text + ")" }

// grownTerm is a term without free variables whose type has just so many nodes: it is doubled where that can be, or has
// a lambda more around it, which makes two.
func grownTerm(nodes int) string {
	switch half := (nodes - 5) / 2; {
	case nodes == 3:
		return `\0`
	case nodes >= 11 && half%2 == 1:
		return twiceTerm(grownTerm(half))
	}
	return `\` + grownTerm(nodes-2)
}

// Types of 199 nodes are told, those of 201 are none.
func TestInferTermOfManyNodes(t *testing.T) {
	for nodes := 3; nodes < 261; nodes += 2 {
		text := grownTerm(nodes)
		l := nodesIn(text)
		want, most, ok := modelInfer(l)
		if !modelGoodTerm(l) || !ok || most > 4000 || want != "" && nodesOfType(want) != nodes || (want != "") != (nodes <= 199) {
			t.Fatalf("%s has another type: %s", text, want)
		}
		infers(t, text, want)
		if nodes <= 199 {
			hasType(t, text, want, true)
			hasType(t, text, "(t0>t0)", nodes == 3)
		} else {
			hasType(t, text, "(t0>t0)", false)
			hasType(t, text, "t0", false)
		}
	}
}

// Types with 60 nodes around each other are told, those with 61 are none.
func TestInferTermOfDeepNodes(t *testing.T) {
	for many := 24; many < 36; many++ {
		text := `\(` + appliedTo("0", many, `\0`) + " " + lambdas(27, "0") + ")"
		l := nodesIn(text)
		s, most, ok := modelInfer(l)
		if !modelGoodTerm(l) || !ok || most > 199 || (s != "") != (many <= 30) || s != "" && deepOfType(s) != many+30 {
			t.Fatalf("%s has another type: %s", text, s)
		}
		infers(t, text, s)
		hasType(t, text, "(t0>t1)", false)
	}
}

// What comes up on the way may have 4000 nodes, though the answer has few: types of thousands of nodes are dropped.
func TestInferTermGrowsOnTheWay(t *testing.T) {
	for nodes := 3; nodes < 4400; nodes += 2 {
		text := grownTerm(nodes)
		if nodes%100 != 1 && (nodes < 3900 || nodes > 4100) || !modelGoodTerm(nodesIn(`\(\1 `+text+")")) {
			continue
		}
		// The arrow from it to the application's own type has two nodes more.
		want := "(t0>t0)"
		if nodes > 3997 {
			want = ""
		}
		infers(t, `\(\1 `+text+")", want)
		infers(t, `(\\0 `+text+")", want)
		hasType(t, `\(\1 `+text+")", "(t0>t0)", want != "")
		hasType(t, `(\\0 `+text+")", "(t0>t1)", false)
	}
}

// grownLets are texts of which each takes the one ahead of it, as the variable of a lambda around it; the last one's
// type has just so many nodes.
func grownLets(nodes int) []string {
	switch half := (nodes - 5) / 2; {
	case nodes == 3:
		return []string{`\0`}
	case nodes >= 11 && half%2 == 1:
		return append(grownLets(half), `\((0 1) 1)`)
	}
	return append(grownLets(nodes-2), `\1`)
}

// The same for what is bound, and becomes more and more when other variables are bound: that of the innermost lambda is
// the first to be bound, and the last one that is put into it makes it as great as it is.
func TestInferTermGrowsBinds(t *testing.T) {
	for _, nodes := range []int{3, 99, 199, 201, 1001, 2001, 3997, 3999, 4001, 4003} {
		text := `\0`
		values := grownLets(nodes)
		for at := range values {
			text = `(\` + text + " " + values[len(values)-1-at] + ")"
		}
		if !modelGoodTerm(nodesIn(text)) {
			t.Fatalf("%s is not good", text)
		}
		want := "(t0>t0)"
		if nodes > 4000 {
			want = ""
		}
		infers(t, text, want)
		hasType(t, text, "(t7>t7)", want != "")
	}
}
