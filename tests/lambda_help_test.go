package tests

import (
	"fmt"
	"regexp"
	"slices"
	"strconv"
	"strings"
	"testing"

	"loop.example/g00201/impl"
)

// lamTerm is a term whose variables hold the lambda itself that they belong to, or, free ones, their index. So nothing
// is shifted when it comes to stand elsewhere.
type lamTerm struct {
	kind  int
	of    *lamTerm
	index int
	parts []*lamTerm
}

func lamTermOf(l []impl.Term) *lamTerm {
	nodes := make([]*lamTerm, len(l))
	for at, n := range l {
		nodes[at] = &lamTerm{kind: n.Kind}
		left := n.N
		for up := n.Up; up >= 0; up = l[up].Up {
			if l[up].Kind == impl.TermLam && n.Kind == impl.TermVar && nodes[at].of == nil {
				if left == 0 {
					nodes[at].of = nodes[up]
				}
				left--
			}
		}
		if n.Kind == impl.TermVar && nodes[at].of == nil {
			nodes[at].index = left
		}
		if at > 0 {
			nodes[n.Up].parts = append(nodes[n.Up].parts, nodes[at])
		}
	}
	return nodes[0]
}

// list gives the nodes of a term with these lambdas around it, the innermost one last.
func (m *lamTerm) list(around ...*lamTerm) []impl.Term {
	var l []impl.Term
	var walk func(m *lamTerm, up int, around []*lamTerm)
	walk = func(m *lamTerm, up int, around []*lamTerm) {
		n := impl.Term{Kind: m.kind, Up: up}
		if m.kind == impl.TermVar && m.of == nil {
			n.N = m.index + len(around)
		} else if m.kind == impl.TermVar {
			n.N = len(around) - 1 - slices.Index(around, m.of)
		}
		l = append(l, n)
		me := len(l) - 1
		if m.kind == impl.TermLam {
			around = append(slices.Clone(around), m)
		}
		for _, part := range m.parts {
			walk(part, me, around)
		}
	}
	walk(m, -1, around)
	return l
}

// with makes a term anew, with what give tells in the place of a variable, if that is something.
func (m *lamTerm) with(give func(v *lamTerm) *lamTerm) *lamTerm {
	if m.kind == impl.TermVar {
		if put := give(m); put != nil {
			return put
		}
		return &lamTerm{kind: m.kind, of: m.of, index: m.index}
	}
	return m.again(m.parts, give)
}

// again is a node with other parts, whose variables belong to the new node if they did to this one.
func (m *lamTerm) again(parts []*lamTerm, give func(v *lamTerm) *lamTerm) *lamTerm {
	out := &lamTerm{kind: m.kind}
	for _, part := range parts {
		out.parts = append(out.parts, part.with(func(v *lamTerm) *lamTerm {
			if v.of == m {
				return &lamTerm{kind: impl.TermVar, of: out}
			}
			return give(v)
		}))
	}
	return out
}

func (m *lamTerm) copied() *lamTerm { return m.with(asItIs) }

func asItIs(*lamTerm) *lamTerm { return nil }

// preorder gives all nodes in the order of their numbers.
func (m *lamTerm) preorder() []*lamTerm {
	out := []*lamTerm{m}
	for _, part := range m.parts {
		out = append(out, part.preorder()...)
	}
	return out
}

func (m *lamTerm) isRedex() bool {
	return m.kind == impl.TermApp && m.parts[0].kind == impl.TermLam
}

// reduced puts copies of the second part in for the variables of the lambda.
func (m *lamTerm) reduced() *lamTerm {
	lambda := m.parts[0]
	return lambda.parts[0].with(func(v *lamTerm) *lamTerm {
		if v.of == lambda {
			return m.parts[1].copied()
		}
		return nil
	})
}

// develop reduces the redexes that are marked, at once; wrong counts the parts whose outcomes are not good.
func (m *lamTerm) develop(marks map[*lamTerm]bool, around []*lamTerm, wrong *int) *lamTerm {
	inner := around
	if m.kind == impl.TermLam {
		inner = append(slices.Clone(around), m)
	}
	var parts []*lamTerm
	for _, part := range m.parts {
		parts = append(parts, part.develop(marks, inner, wrong))
	}
	out := m
	if m.kind != impl.TermVar {
		out = m.again(parts, asItIs)
	}
	if marks[m] {
		out = out.reduced()
	}
	if !modelGoodTerm(out.list(around...)) {
		*wrong++
	}
	return out
}

// goodOrNone is the answer that a term is told by.
func goodOrNone(l []impl.Term) ([]impl.Term, bool) {
	if !modelGoodTerm(l) {
		return nil, false
	}
	return l, true
}

func modelFree(l []impl.Term) []int {
	met := map[int]bool{}
	var free []int
	for _, m := range lamTermOf(l).preorder() {
		if m.kind == impl.TermVar && m.of == nil && !met[m.index] {
			met[m.index] = true
			free = append(free, m.index)
		}
	}
	slices.Sort(free)
	return free
}

func modelShift(l []impl.Term, by int, from int) ([]impl.Term, bool) {
	if by < -99 || by > 99 || from < 0 || from > 99 {
		return nil, false
	}
	m := lamTermOf(l)
	for _, v := range m.preorder() {
		if v.kind == impl.TermVar && v.of == nil && v.index >= from {
			v.index += by
			if v.index < from {
				return nil, false
			}
		}
	}
	return goodOrNone(m.list())
}

func modelSubst(l []impl.Term, k int, s []impl.Term) ([]impl.Term, bool) {
	if k < 0 || k > 99 {
		return nil, false
	}
	return goodOrNone(lamTermOf(l).with(func(v *lamTerm) *lamTerm {
		switch {
		case v.of != nil || v.index < k:
			return nil
		case v.index == k:
			return lamTermOf(s)
		}
		return &lamTerm{kind: impl.TermVar, index: v.index - 1}
	}).list())
}

func modelRedexes(l []impl.Term) []int {
	var out []int
	for at, m := range lamTermOf(l).preorder() {
		if m.isRedex() {
			out = append(out, at)
		}
	}
	return out
}

func modelReduceAt(l []impl.Term, k int) ([]impl.Term, bool) {
	if !slices.Contains(modelRedexes(l), k) {
		return nil, false
	}
	m := lamTermOf(l)
	wrong := 0
	return goodOrNone(m.develop(map[*lamTerm]bool{m.preorder()[k]: true}, nil, &wrong).list())
}

func modelDevelop(l []impl.Term) ([]impl.Term, bool) {
	m := lamTermOf(l)
	marks := map[*lamTerm]bool{}
	for _, part := range m.preorder() {
		marks[part] = part.isRedex()
	}
	wrong := 0
	out := m.develop(marks, nil, &wrong)
	if wrong > 0 {
		return nil, false
	}
	return out.list(), true
}

// modelReducts marks any of the redexes, of the whole and of each part.
func modelReducts(l []impl.Term) ([]string, bool) {
	m := lamTermOf(l)
	_, all, ok := m.reducts(nil)
	if !ok {
		return nil, false
	}
	slices.Sort(all)
	return all, true
}

// reducts gives the texts of all that marking any redexes makes, and whether they are good and not too many, those of
// each part too.
func (m *lamTerm) reducts(around []*lamTerm) ([]*lamTerm, []string, bool) {
	inner := around
	if m.kind == impl.TermLam {
		inner = append(slices.Clone(around), m)
	}
	var redexes []*lamTerm
	for _, part := range m.parts {
		partRedexes, _, ok := part.reducts(inner)
		if !ok {
			return nil, nil, false
		}
		redexes = append(redexes, partRedexes...)
	}
	if m.isRedex() {
		redexes = append(redexes, m)
	}
	texts := map[string]bool{}
	for choice := range 1 << len(redexes) {
		marks := map[*lamTerm]bool{}
		for at, redex := range redexes {
			marks[redex] = choice>>at&1 == 1
		}
		wrong := 0
		out := m.develop(marks, around, &wrong).list(around...)
		texts[spell(out)] = true
		if wrong > 0 || len(texts) > 64 {
			return nil, nil, false
		}
	}
	var all []string
	for text := range texts {
		all = append(all, text)
	}
	return redexes, all, true
}

func modelNormal(l []impl.Term, fuel int) ([]impl.Term, int, bool) {
	steps := 0
	for fuel >= 0 && fuel <= 1000 {
		redexes := modelRedexes(l)
		if len(redexes) == 0 {
			return l, steps, true
		}
		next, ok := modelReduceAt(l, redexes[0])
		if !ok || steps == fuel {
			break
		}
		l = next
		steps++
	}
	return nil, 0, false
}

// modelGoodTerm looks at each node by itself.
func modelGoodTerm(l []impl.Term) bool {
	if len(l) < 1 || len(l) > 150 || l[0].Up != -1 {
		return false
	}
	deep, parts := make([]int, len(l)), make([]int, len(l))
	for at, n := range l {
		isAround := at == 0
		for up := at - 1; up >= 0; up = l[up].Up {
			isAround = isAround || up == n.Up
		}
		if !isAround {
			return false
		}
		deep[at] = 1
		if at > 0 {
			deep[at] += deep[n.Up]
			parts[n.Up]++
		}
	}
	for at, n := range l {
		isVar := n.Kind == 1 && n.N >= 0 && n.N <= 99 && parts[at] == 0
		isLam := n.Kind == 2 && n.N == 0 && parts[at] == 1
		isApp := n.Kind == 3 && n.N == 0 && parts[at] == 2
		if !isVar && !isLam && !isApp || deep[at] > 40 {
			return false
		}
	}
	return true
}

// spell gives the text of nodes that make a term, whatever their number.
func spell(l []impl.Term) string {
	parts := make([][]int, len(l))
	for at, n := range l[1:] {
		parts[n.Up] = append(parts[n.Up], at+1)
	}
	var text func(at int) string
	text = func(at int) string {
		switch l[at].Kind {
		case impl.TermVar:
			return strconv.Itoa(l[at].N)
		case impl.TermLam:
			return `\` + text(parts[at][0])
		}
		return "(" + text(parts[at][0]) + " " + text(parts[at][1]) + ")"
	}
	return text(0)
}

var lamVariable = regexp.MustCompile(`^(?:0|[1-9][0-9]*)`)

// parseTerm reads a text by a pile of what must come yet: a sign, or a term, which is no sign.
func parseTerm(s string) ([]impl.Term, bool) {
	type due struct {
		sign string
		up   int
	}
	var l []impl.Term
	for pile := []due{{up: -1}}; len(pile) > 0; {
		next := pile[len(pile)-1]
		pile = pile[:len(pile)-1]
		if next.sign != "" {
			if !strings.HasPrefix(s, next.sign) {
				return nil, false
			}
			s = s[1:]
			continue
		}
		me, n := len(l), impl.Term{Up: next.up}
		digits := lamVariable.FindString(s)
		switch {
		case strings.HasPrefix(s, `\`):
			n.Kind = impl.TermLam
			pile = append(pile, due{up: me})
			s = s[1:]
		case strings.HasPrefix(s, "("):
			n.Kind = impl.TermApp
			pile = append(pile, due{sign: ")"}, due{up: me}, due{sign: " "}, due{up: me})
			s = s[1:]
		case len(digits) >= 1 && len(digits) <= 9:
			n.Kind = impl.TermVar
			n.N, _ = strconv.Atoi(digits)
			s = s[len(digits):]
		default:
			return nil, false
		}
		l = append(l, n)
	}
	if s != "" {
		return nil, false
	}
	return l, true
}

// nodesIn gives the nodes that a test writes as a text, whether they are good or not.
func nodesIn(text string) []impl.Term {
	l, ok := parseTerm(text)
	if !ok {
		panic("no term: " + text)
	}
	return l
}

// bushy is a text of just so many nodes, nowhere deeper than it must be; all its variables are v, or v more by a lambda.
func bushy(nodes int, v int) string {
	switch {
	case nodes == 1:
		return strconv.Itoa(v)
	case nodes%2 == 0:
		return `\` + bushy(nodes-1, v+1)
	}
	first := (nodes - 1) / 2
	if first%2 == 0 {
		first--
	}
	return "(" + bushy(first, v) + " " + bushy(nodes-1-first, v) + ")"
}

// lambdas is a text with so many lambdas around another one.
func lambdas(many int, text string) string { return strings.Repeat(`\`, many) + text }

// identities is a text with so many identities around another one, each applied to all behind it.
func identities(many int, text string) string {
	return strings.Repeat(`(\0 `, many) + text + strings.Repeat(")", many)
}

// term draws a term's text with just so many nodes; its variables are those of the lambdas around and some free ones.
func (d *dice) term(nodes int, around int, free int) string {
	switch {
	case nodes == 1:
		return strconv.Itoa(d.below(around + free))
	case nodes == 2 || d.below(5) == 0:
		return `\` + d.term(nodes-1, around+1, free)
	}
	first := 1 + d.below(nodes-2)
	second := d.term(nodes-1-first, around, free)
	if first > 1 && d.below(3) > 0 {
		return `(\` + d.term(first-1, around+1, free) + " " + second + ")"
	}
	return "(" + d.term(first, around, free) + " " + second + ")"
}

// drawnTerms are good terms of up to so many nodes.
func drawnTerms(state uint64, many int, nodes int) [][]impl.Term {
	d := &dice{state: state}
	var out [][]impl.Term
	for len(out) < many {
		l := nodesIn(d.term(1+d.below(nodes), 0, 1+d.below(4)))
		if modelGoodTerm(l) {
			out = append(out, l)
		}
	}
	return out
}

// toldTerm asks for a term, or for the zero answer.
func toldTerm(t *testing.T, what string, got []impl.Term, ok bool, want []impl.Term, wantOk bool) {
	t.Helper()
	if !slices.Equal(got, want) || ok != wantOk {
		t.Errorf("%s: %v, %v; wanted %v, %v", what, got, ok, want, wantOk)
	}
}

// isTerm asks for the term of a text.
func isTerm(t *testing.T, what string, got []impl.Term, ok bool, want string) {
	t.Helper()
	toldTerm(t, what, got, ok, nodesIn(want), true)
}

// noTerm asks for the zero answer.
func noTerm(t *testing.T, what string, got []impl.Term, ok bool) {
	t.Helper()
	toldTerm(t, what, got, ok, nil, false)
}

func shifts(t *testing.T, text string, by int, from int, want string) {
	t.Helper()
	got, ok := impl.ShiftTerm(nodesIn(text), by, from)
	isTerm(t, fmt.Sprintf("ShiftTerm(%s, %d, %d)", short(text), by, from), got, ok, want)
}

func shiftsNot(t *testing.T, text string, by int, from int) {
	t.Helper()
	got, ok := impl.ShiftTerm(nodesIn(text), by, from)
	noTerm(t, fmt.Sprintf("ShiftTerm(%s, %d, %d)", short(text), by, from), got, ok)
}

func puts(t *testing.T, text string, k int, s string, want string) {
	t.Helper()
	got, ok := impl.SubstTerm(nodesIn(text), k, nodesIn(s))
	isTerm(t, fmt.Sprintf("SubstTerm(%s, %d, %s)", short(text), k, short(s)), got, ok, want)
}

func putsNot(t *testing.T, text string, k int, s string) {
	t.Helper()
	got, ok := impl.SubstTerm(nodesIn(text), k, nodesIn(s))
	noTerm(t, fmt.Sprintf("SubstTerm(%s, %d, %s)", short(text), k, short(s)), got, ok)
}

func reducesTo(t *testing.T, text string, k int, want string) {
	t.Helper()
	got, ok := impl.ReduceAt(nodesIn(text), k)
	isTerm(t, fmt.Sprintf("ReduceAt(%s, %d)", short(text), k), got, ok, want)
}

func reducesNot(t *testing.T, text string, k int) {
	t.Helper()
	got, ok := impl.ReduceAt(nodesIn(text), k)
	noTerm(t, fmt.Sprintf("ReduceAt(%s, %d)", short(text), k), got, ok)
}

func develops(t *testing.T, text string, want string) {
	t.Helper()
	got, ok := impl.DevelopTerm(nodesIn(text))
	isTerm(t, fmt.Sprintf("DevelopTerm(%s)", short(text)), got, ok, want)
}

func developsNot(t *testing.T, text string) {
	t.Helper()
	got, ok := impl.DevelopTerm(nodesIn(text))
	noTerm(t, fmt.Sprintf("DevelopTerm(%s)", short(text)), got, ok)
}

func hasReducts(t *testing.T, text string, want ...string) {
	t.Helper()
	if got, ok := impl.ReductsOf(nodesIn(text)); !slices.Equal(got, want) || !ok {
		t.Errorf("ReductsOf(%s): %q, %v; wanted %q", short(text), got, ok, want)
	}
}

func noReducts(t *testing.T, text string) {
	t.Helper()
	if got, ok := impl.ReductsOf(nodesIn(text)); len(got) > 0 || ok {
		t.Errorf("ReductsOf(%s): %d texts, %v; wanted the zero answer", short(text), len(got), ok)
	}
}

// ends asks for a normal form with just as much fuel as is needed, with more, and for none with less.
func ends(t *testing.T, text string, want string, steps int) {
	t.Helper()
	for _, fuel := range []int{steps, steps + 1, 1000} {
		got, took, ok := impl.NormalTerm(nodesIn(text), fuel)
		isTerm(t, fmt.Sprintf("NormalTerm(%s, %d)", short(text), fuel), got, ok, want)
		if took != steps {
			t.Errorf("NormalTerm(%s, %d): %d times, not %d", short(text), fuel, took, steps)
		}
	}
	endsNot(t, text, steps-1)
}

func endsNot(t *testing.T, text string, fuel int) {
	t.Helper()
	got, took, ok := impl.NormalTerm(nodesIn(text), fuel)
	noTerm(t, fmt.Sprintf("NormalTerm(%s, %d)", short(text), fuel), got, ok)
	if took != 0 {
		t.Errorf("NormalTerm(%s, %d): %d beside false", short(text), fuel, took)
	}
}
