package tests

import (
	"fmt"
	"regexp"
	"slices"
	"strconv"
	"strings"
	"testing"

	"loop.example/g00201/impl"
)

// combRow is a combinator as signs one behind the other, with `@` ahead of both parts of an application. No sign tells
// where it belongs: parts are found by counting, and a step changes a piece of the row.
type combRow []string

var combKinds = map[string]int{"x": impl.CombVar, "@": impl.CombApp, "S": impl.CombS, "K": impl.CombK, "I": impl.CombI}

// A number with needless noughts is cut, and so does not come back in the text of its row.
var combSigns = regexp.MustCompile(`\(|x(?:0|[1-9][0-9]*)|[SKI]`)

// combRowOf gives the row that has a text, good or not; false, where there is none.
func combRowOf(text string) (combRow, bool) {
	r := combRow(combSigns.FindAllString(text, -1))
	for at, sign := range r {
		if sign == "(" {
			r[at] = "@"
		}
	}
	if r.end(0) != len(r) || r.text() != text {
		return nil, false
	}
	return r, true
}

func combRowIn(l []impl.Comb) combRow {
	var r combRow
	for _, n := range l {
		for sign, kind := range combKinds {
			switch {
			case kind == impl.CombVar && n.Kind == kind:
				r = append(r, sign+strconv.Itoa(n.N))
			case n.Kind == kind:
				r = append(r, sign)
			}
		}
	}
	return r
}

// end tells where the part that begins at a place ends; beyond the row, where it lacks something.
func (r combRow) end(at int) int {
	for due := 1; due > 0; at++ {
		switch {
		case at >= len(r):
			return len(r) + 1
		case r[at] == "@":
			due++
		default:
			due--
		}
	}
	return at
}

func (r combRow) text() string {
	if r[0] != "@" {
		return r[0]
	}
	second := r.end(1)
	return "(" + r[1:second].text() + " " + r[second:].text() + ")"
}

func (r combRow) nodes() []impl.Comb {
	l := make([]impl.Comb, len(r))
	ups := []int{-1}
	for at, sign := range r {
		l[at] = impl.Comb{Kind: combKinds[sign[:1]], Up: ups[len(ups)-1]}
		ups = ups[:len(ups)-1]
		switch l[at].Kind {
		case impl.CombVar:
			l[at].N, _ = strconv.Atoi(sign[1:])
		case impl.CombApp:
			ups = append(ups, at, at)
		}
	}
	return l
}

// told gives the nodes of a row that is good.
func (r combRow) told() ([]impl.Comb, bool) {
	if l := r.nodes(); modelGoodComb(l) {
		return l, true
	}
	return nil, false
}

func (r combRow) abstract(x string) combRow {
	if !slices.Contains(r, x) {
		return slices.Concat(combRow{"@", "K"}, r)
	}
	if len(r) == 1 {
		return combRow{"I"}
	}
	second := r.end(1)
	// The variable stands in it once, at its end.
	if slices.Index(r, x) == len(r)-1 && second == len(r)-1 {
		return r[1:second]
	}
	return slices.Concat(combRow{"@", "@", "S"}, r[1:second].abstract(x), r[second:].abstract(x))
}

func (r combRow) put(x string, s combRow) combRow {
	var out combRow
	for _, sign := range r {
		if sign == x {
			out = append(out, s...)
		} else {
			out = append(out, sign)
		}
	}
	return out
}

// combHeads are how redexes begin, and which parts behind that (and which applications) they come to.
var combHeads = []struct {
	begin combRow
	out   string
}{{combRow{"@", "I"}, "a"}, {combRow{"@", "@", "K"}, "a"}, {combRow{"@", "@", "@", "S"}, "@@ac@bc"}}

func (r combRow) step() (combRow, bool) {
	for at := range r {
		for _, rule := range combHeads {
			next := at + len(rule.begin)
			if next > len(r) || !slices.Equal(r[at:next], rule.begin) {
				continue
			}
			var parts []combRow
			for range len(rule.begin) - 1 {
				end := r.end(next)
				parts = append(parts, r[next:end])
				next = end
			}
			out := slices.Clone(r[:at])
			for _, sign := range rule.out {
				if sign == '@' {
					out = append(out, "@")
				} else {
					out = append(out, parts[sign-'a']...)
				}
			}
			return append(out, r[next:]...), true
		}
	}
	return nil, false
}

func modelAbstract(l []impl.Comb, x int) ([]impl.Comb, bool) {
	if x < 0 || x > 999 {
		return nil, false
	}
	return combRowIn(l).abstract("x" + strconv.Itoa(x)).told()
}

func modelPut(l []impl.Comb, x int, s []impl.Comb) ([]impl.Comb, bool) {
	if x < 0 || x > 999 {
		return nil, false
	}
	return combRowIn(l).put("x"+strconv.Itoa(x), combRowIn(s)).told()
}

func modelStep(l []impl.Comb) ([]impl.Comb, bool) {
	r, ok := combRowIn(l).step()
	if !ok {
		return nil, false
	}
	return r.told()
}

func modelNormalComb(l []impl.Comb, fuel int) ([]impl.Comb, int, bool) {
	if fuel < 0 || fuel > 1000 {
		return nil, 0, false
	}
	r := combRowIn(l)
	for steps := 0; ; steps++ {
		next, more := r.step()
		if !more {
			return r.nodes(), steps, true
		}
		if _, ok := next.told(); !ok || steps == fuel {
			return nil, 0, false
		}
		r = next
	}
}

func modelCombOfTerm(l []impl.Term) ([]impl.Comb, bool) {
	r, ok := lamTermOf(l).comb(nil)
	if !ok {
		return nil, false
	}
	return r.nodes(), true
}

// comb gives the row of a term within some lambdas, the innermost one last; false, where that of any part is not good.
func (m *lamTerm) comb(around []*lamTerm) (combRow, bool) {
	var r combRow
	switch m.kind {
	case impl.TermVar:
		x := m.index
		if m.of != nil {
			x = 100 + slices.Index(around, m.of)
		}
		r = combRow{"x" + strconv.Itoa(x)}
	case impl.TermLam:
		part, ok := m.parts[0].comb(append(slices.Clone(around), m))
		if !ok {
			return nil, false
		}
		r = part.abstract("x" + strconv.Itoa(100+len(around)))
	default:
		first, ok := m.parts[0].comb(around)
		second, alsoOk := m.parts[1].comb(around)
		if !ok || !alsoOk {
			return nil, false
		}
		r = slices.Concat(combRow{"@"}, first, second)
	}
	_, ok := r.told()
	return r, ok
}

// modelGoodComb looks at each node by itself.
func modelGoodComb(l []impl.Comb) bool {
	if len(l) < 1 || len(l) > 200 || l[0].Up != -1 {
		return false
	}
	deep, parts := make([]int, len(l)), make([]int, len(l))
	for at, n := range l {
		isAround := at == 0
		for up := at - 1; up >= 0; up = l[up].Up {
			isAround = isAround || up == n.Up
		}
		if !isAround {
			return false
		}
		deep[at] = 1
		if at > 0 {
			deep[at] += deep[n.Up]
			parts[n.Up]++
		}
	}
	for at, n := range l {
		isVar := n.Kind == 1 && n.N >= 0 && n.N <= 999 && parts[at] == 0
		isApp := n.Kind == 2 && n.N == 0 && parts[at] == 2
		isLetter := n.Kind >= 3 && n.Kind <= 5 && n.N == 0 && parts[at] == 0
		if !isVar && !isApp && !isLetter || deep[at] > 60 {
			return false
		}
	}
	return true
}

// combIn gives the nodes that a test writes as a text, whether they are good or not.
func combIn(text string) []impl.Comb {
	r, ok := combRowOf(text)
	if !ok {
		panic("no combinator: " + text)
	}
	return r.nodes()
}

func spellComb(l []impl.Comb) string { return combRowIn(l).text() }

// wideComb is a text of just so many nodes (an odd number), nowhere deeper than it must be, with one leaf everywhere.
func wideComb(nodes int, leaf string) string {
	if nodes == 1 {
		return leaf
	}
	first := (nodes - 1) / 2
	if first%2 == 0 {
		first--
	}
	return "(" + wideComb(first, leaf) + " " + wideComb(nodes-1-first, leaf) + ")"
}

// appliedTo is a text with others behind it, so many times.
func appliedTo(text string, many int, other string) string {
	return strings.Repeat("(", many) + text + strings.Repeat(" "+other+")", many)
}

// behindAll is a text with others ahead of it, so many times.
func behindAll(other string, many int, text string) string {
	return strings.Repeat("("+other+" ", many) + text + strings.Repeat(")", many)
}

// comb draws a combinator's text with just so many leaves.
func (d *dice) comb(leaves int, variables int) string {
	if leaves == 1 {
		if d.below(3) == 0 {
			return "x" + strconv.Itoa(d.below(variables))
		}
		return []string{"S", "K", "I"}[d.below(3)]
	}
	first := 1 + d.below(leaves-1)
	return "(" + d.comb(first, variables) + " " + d.comb(leaves-first, variables) + ")"
}

// drawnCombs are good combinators of up to so many leaves.
func drawnCombs(state uint64, many int, leaves int) [][]impl.Comb {
	d := &dice{state: state}
	var out [][]impl.Comb
	for len(out) < many {
		l := combIn(d.comb(1+d.below(leaves), 1+d.below(4)))
		if modelGoodComb(l) {
			out = append(out, l)
		}
	}
	return out
}

// variablesOf are the numbers of the variables, rising.
func variablesOf(l []impl.Comb) []int {
	var out []int
	for _, n := range l {
		if n.Kind == impl.CombVar {
			out = append(out, n.N)
		}
	}
	slices.Sort(out)
	return slices.Compact(out)
}

// toldComb asks for a combinator, or for the zero answer.
func toldComb(t *testing.T, what string, got []impl.Comb, ok bool, want []impl.Comb, wantOk bool) {
	t.Helper()
	if !slices.Equal(got, want) || ok != wantOk {
		t.Errorf("%s: %v, %v; wanted %v, %v", what, got, ok, want, wantOk)
	}
}

// isComb asks for the combinator of a text; of none, for the zero answer.
func isComb(t *testing.T, what string, got []impl.Comb, ok bool, want string) {
	t.Helper()
	if want == "" {
		toldComb(t, what, got, ok, nil, false)
	} else {
		toldComb(t, what, got, ok, combIn(want), true)
	}
}

func abstracts(t *testing.T, text string, x int, want string) {
	t.Helper()
	got, ok := impl.AbstractComb(combIn(text), x)
	isComb(t, fmt.Sprintf("AbstractComb(%s, %d)", short(text), x), got, ok, want)
}

func putsComb(t *testing.T, text string, x int, s string, want string) {
	t.Helper()
	got, ok := impl.PutComb(combIn(text), x, combIn(s))
	isComb(t, fmt.Sprintf("PutComb(%s, %d, %s)", short(text), x, short(s)), got, ok, want)
}

func stepsTo(t *testing.T, text string, want string) {
	t.Helper()
	got, ok := impl.StepComb(combIn(text))
	isComb(t, fmt.Sprintf("StepComb(%s)", short(text)), got, ok, want)
}

func combOfTerm(t *testing.T, text string, want string) {
	t.Helper()
	got, ok := impl.CombOfTerm(nodesIn(text))
	isComb(t, fmt.Sprintf("CombOfTerm(%s)", short(text)), got, ok, want)
}

// combEnds asks for a normal form with just as much fuel as is needed, with more, and for none with less.
func combEnds(t *testing.T, text string, want string, steps int) {
	t.Helper()
	for _, fuel := range []int{steps, min(steps+1, 1000), 1000} {
		got, took, ok := impl.NormalComb(combIn(text), fuel)
		isComb(t, fmt.Sprintf("NormalComb(%s, %d)", short(text), fuel), got, ok, want)
		if took != steps {
			t.Errorf("NormalComb(%s, %d): %d times, not %d", short(text), fuel, took, steps)
		}
	}
	combEndsNot(t, text, steps-1)
}

func combEndsNot(t *testing.T, text string, fuel int) {
	t.Helper()
	got, took, ok := impl.NormalComb(combIn(text), fuel)
	isComb(t, fmt.Sprintf("NormalComb(%s, %d)", short(text), fuel), got, ok, "")
	if took != 0 {
		t.Errorf("NormalComb(%s, %d): %d beside false", short(text), fuel, took)
	}
}
