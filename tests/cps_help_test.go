package tests

import (
	"fmt"
	"testing"

	"loop.example/g00201/impl"
)

// nextRedex is the redex that is next, by value or by name; nothing of a lambda.
func (m *lamTerm) nextRedex(byValue bool) *lamTerm {
	for m.kind == impl.TermApp {
		switch {
		case m.parts[0].kind == impl.TermApp:
			m = m.parts[0]
		case byValue && m.parts[1].kind == impl.TermApp:
			m = m.parts[1]
		default:
			return m
		}
	}
	return nil
}

// modelBring looks for the next redex in the whole term, again and again; nothing is kept but that term.
func modelBring(l []impl.Term, fuel int, byValue bool) ([]impl.Term, int, bool) {
	if fuel < 0 || fuel > 1000 || !isProgram(l) {
		return nil, 0, false
	}
	for steps := 0; ; steps++ {
		m := lamTermOf(l)
		redex := m.nextRedex(byValue)
		if redex == nil {
			return l, steps, true
		}
		wrong := 0
		next, ok := goodOrNone(m.develop(map[*lamTerm]bool{redex: true}, nil, &wrong).list())
		if !ok || steps == fuel {
			return nil, 0, false
		}
		l = next
	}
}

// lamOf is a lambda whose body is told by what makes its variable.
func lamOf(body func(v func() *lamTerm) *lamTerm) *lamTerm {
	out := &lamTerm{kind: impl.TermLam}
	out.parts = []*lamTerm{body(func() *lamTerm { return &lamTerm{kind: impl.TermVar, of: out} })}
	return out
}

func appOf(first *lamTerm, second *lamTerm) *lamTerm {
	return &lamTerm{kind: impl.TermApp, parts: []*lamTerm{first, second}}
}

// passModel makes the variables of the new lambdas by those of the old ones.
type passModel map[*lamTerm]func() *lamTerm

func (p passModel) value(m *lamTerm) *lamTerm {
	return lamOf(func(x func() *lamTerm) *lamTerm {
		p[m] = x
		return p.term(m.parts[0])
	})
}

func (p passModel) term(m *lamTerm) *lamTerm {
	return lamOf(func(k func() *lamTerm) *lamTerm {
		switch m.kind {
		case impl.TermVar:
			return appOf(k(), p[m.of]())
		case impl.TermLam:
			return appOf(k(), p.value(m))
		}
		return appOf(p.term(m.parts[0]), lamOf(func(first func() *lamTerm) *lamTerm {
			return appOf(p.term(m.parts[1]), lamOf(func(second func() *lamTerm) *lamTerm {
				return appOf(appOf(first(), second()), k())
			}))
		}))
	})
}

func modelPass(l []impl.Term) ([]impl.Term, bool) {
	if !isProgram(l) {
		return nil, false
	}
	return goodOrNone(passModel{}.term(lamTermOf(l)).list())
}

func modelPassValue(l []impl.Term) ([]impl.Term, bool) {
	if !isProgram(l) || l[0].Kind != impl.TermLam {
		return nil, false
	}
	return goodOrNone(passModel{}.value(lamTermOf(l)).list())
}

func modelApplyTerm(a []impl.Term, b []impl.Term) ([]impl.Term, bool) {
	if !isProgram(a) || !isProgram(b) {
		return nil, false
	}
	return goodOrNone(nodesIn("(" + spell(a) + " " + spell(b) + ")"))
}

func modelRunPassed(l []impl.Term, fuel int) ([]impl.Term, bool) {
	passed, ok := modelPass(l)
	if !ok {
		return nil, false
	}
	whole, ok := modelApplyTerm(passed, nodesIn(`\0`))
	if !ok {
		return nil, false
	}
	value, _, ok := modelBring(whole, fuel, false)
	return value, ok
}

// isProgram says whether a list is a good term without free variables.
func isProgram(l []impl.Term) bool { return modelGoodTerm(l) && len(modelFree(l)) == 0 }

// values are lambdas without free variables that do something with others.
var values = []string{`\0`, `\\1`, `\\0`, `\\\((2 0) (1 0))`, `\\\(2 (1 0))`, `\\\((2 0) 1)`, `\\(0 1)`, `\(0 \0)`, `\(0 0)`, `\\((1 0) 0)`, `\\(1 (1 0))`, `\\((0 1) 1)`}

// program draws a text of so many lambdas that are applied to each other; it has no free variables.
func (d *dice) program(many int) string {
	if many == 1 {
		if d.below(2) == 0 {
			return values[d.below(len(values))]
		}
		return `\` + d.term(1+d.below(8), 1, 0)
	}
	first := 1 + d.below(many-1)
	return "(" + d.program(first) + " " + d.program(many-first) + ")"
}

// drawnPrograms are good terms without free variables, of up to so many lambdas that are applied to each other.
func drawnPrograms(state uint64, many int, most int) [][]impl.Term {
	d := &dice{state: state}
	var out [][]impl.Term
	for len(out) < many {
		if l := nodesIn(d.program(1 + d.below(most))); modelGoodTerm(l) {
			out = append(out, l)
		}
	}
	return out
}

// wideValue is a lambda of just so many nodes, nowhere deeper than it must be; deepValue one with so many nodes around
// each other.
func wideValue(nodes int) string { return `\` + bushy(nodes-1, 0) }
func deepValue(nodes int) string { return lambdas(nodes-1, "0") }

// bringCalls are both functions that bring a term to a lambda.
var bringCalls = []struct {
	name    string
	byValue bool
	call    func(l []impl.Term, fuel int) ([]impl.Term, int, bool)
}{{"ValueTerm", true, impl.ValueTerm}, {"HeadTerm", false, impl.HeadTerm}}

// bringsAsModel holds both functions against the model, and says which of them tell a lambda.
func bringsAsModel(t *testing.T, l []impl.Term, fuel int) (byValue bool, byName bool) {
	t.Helper()
	var told [2]bool
	for at, c := range bringCalls {
		want, wantSteps, wantOk := modelBring(l, fuel, c.byValue)
		got, steps, ok := c.call(l, fuel)
		what := fmt.Sprintf("%s(%v, %d)", c.name, short(fmt.Sprint(l)), fuel)
		toldTerm(t, what, got, ok, want, wantOk)
		if steps != wantSteps {
			t.Errorf("%s: %d redexes, not %d", what, steps, wantSteps)
		}
		told[at] = ok
	}
	return told[0], told[1]
}

// brings asks one of both functions for a lambda with just as much fuel as is needed, with more, and for none with less;
// of no lambda, for the zero answer with any fuel.
func brings(t *testing.T, at int, text string, want string, steps int) {
	t.Helper()
	fuels := []int{-1, 0, 1, 5, 999, 1000, 1001}
	if want != "" {
		fuels = []int{-1, 0, steps - 1, steps, min(steps+1, 1000), 1000, 1001}
	}
	for _, fuel := range fuels {
		got, took, ok := bringCalls[at].call(nodesIn(text), fuel)
		what := fmt.Sprintf("%s(%s, %d)", bringCalls[at].name, short(text), fuel)
		if want == "" || fuel < steps || fuel > 1000 {
			noTerm(t, what, got, ok)
			if took != 0 {
				t.Errorf("%s: %d beside false", what, took)
			}
			continue
		}
		isTerm(t, what, got, ok, want)
		if took != steps {
			t.Errorf("%s: %d redexes, not %d", what, took, steps)
		}
	}
}

func byValue(t *testing.T, text string, want string, steps int) {
	t.Helper()
	brings(t, 0, text, want, steps)
}

func byName(t *testing.T, text string, want string, steps int) {
	t.Helper()
	brings(t, 1, text, want, steps)
}

// passes asks for what a term comes to; of none, for the zero answer.
func passes(t *testing.T, text string, want string) {
	t.Helper()
	got, ok := impl.PassTerm(nodesIn(text))
	isTermOrNone(t, fmt.Sprintf("PassTerm(%s)", short(text)), got, ok, want)
}

func passesValue(t *testing.T, text string, want string) {
	t.Helper()
	got, ok := impl.PassValue(nodesIn(text))
	isTermOrNone(t, fmt.Sprintf("PassValue(%s)", short(text)), got, ok, want)
}

// isTermOrNone asks for the term of a text; of none, for the zero answer.
func isTermOrNone(t *testing.T, what string, got []impl.Term, ok bool, want string) {
	t.Helper()
	if want == "" {
		noTerm(t, what, got, ok)
	} else {
		isTerm(t, what, got, ok, want)
	}
}

// deepOf gives how many nodes are around each other at most.
func deepOf(l []impl.Term) int {
	most := 0
	for at := range l {
		deep := 0
		for ; at >= 0; at = l[at].Up {
			deep++
		}
		most = max(most, deep)
	}
	return most
}
