package tests

import (
	"fmt"
	"math"
	"slices"
	"strings"
	"testing"
	"time"

	"loop.example/g00201/impl"
)

// zeroOfPassing asks every function of a term for the zero answer.
func zeroOfPassing(t *testing.T, l []impl.Term) {
	t.Helper()
	what := short(fmt.Sprint(l))
	if impl.IsValue(l) {
		t.Errorf("IsValue(%s) is true", what)
	}
	for _, fuel := range []int{0, 1, 1000, -1, 1001} {
		for _, c := range bringCalls {
			got, steps, ok := c.call(l, fuel)
			noTerm(t, c.name+" "+what, got, ok)
			if steps != 0 {
				t.Errorf("%s(%s): %d beside false", c.name, what, steps)
			}
		}
		got, ok := impl.RunPassed(l, fuel)
		noTerm(t, "RunPassed "+what, got, ok)
	}
	got, ok := impl.PassTerm(l)
	noTerm(t, "PassTerm "+what, got, ok)
	got, ok = impl.PassValue(l)
	noTerm(t, "PassValue "+what, got, ok)
	for _, other := range [][]impl.Term{nodesIn(`\0`), nodesIn(`(\0 \0)`), nodesIn("0"), nil, l} {
		got, ok = impl.ApplyTerm(l, other)
		noTerm(t, "ApplyTerm of "+what, got, ok)
		got, ok = impl.ApplyTerm(other, l)
		noTerm(t, "ApplyTerm to "+what, got, ok)
	}
}

// passingAsModel holds every function of a term against the models.
func passingAsModel(t *testing.T, l []impl.Term, fuel int) {
	t.Helper()
	bringsAsModel(t, l, fuel)
	passesAsModel(t, l)
	runsAsModel(t, l, fuel)
	for _, other := range [][]impl.Term{nodesIn(`\0`), l} {
		want, wantOk := modelApplyTerm(l, other)
		got, ok := impl.ApplyTerm(l, other)
		toldTerm(t, "ApplyTerm of "+spell(l), got, ok, want, wantOk)
	}
}

// Good terms with free variables are none of this chapter.
func TestPassingOfFreeVariables(t *testing.T) {
	for _, text := range []string{"0", "1", "99", `\1`, `\\2`, `\99`, "(0 0)", `(\0 0)`, `(0 \0)`, `(\0 \1)`, `(\1 \0)`, `\(0 1)`, `\(1 0)`, `\(\0 1)`, `\\\(0 (1 (2 3)))`, `((\0 \0) 0)`, `(\\1 0)`, `(\\0 0)`, `((\\1 \0) 5)`, `(\\0 \1)`, bushy(149, 0), lambdas(39, "39")} {
		l := nodesIn(text)
		if !impl.GoodTerm(l) {
			t.Errorf("%s is not good", text)
		}
		zeroOfPassing(t, l)
	}
}

func TestPassingOfWrongTerms(t *testing.T) {
	for _, l := range wrongTerms() {
		zeroOfPassing(t, l)
	}
	for _, text := range []string{wideValue(151), deepValue(41), `\100`, `(\0 \100)`, identities(39, `\0`), `(` + wideValue(75) + " " + wideValue(75) + ")"} {
		zeroOfPassing(t, nodesIn(text))
	}
}

// Terms of which any fields are changed have the zero answer where they are not good, or not without free variables.
func TestPassingOfAnyFields(t *testing.T) {
	d := &dice{state: 2351}
	ints := append(wrongInts(), -3, -1, 0, 0, 1, 1, 2, 2, 3, 3, 4, 5, 98, 99, 100)
	told, none := 0, 0
	for _, l := range drawnPrograms(2357, 2000, 3) {
		for range d.below(3) {
			n := &l[d.below(len(l))]
			to := ints[d.below(len(ints))]
			switch d.below(3) {
			case 0:
				n.Kind = to
			case 1:
				n.N = to
			default:
				n.Up = to
			}
		}
		if isProgram(l) {
			told++
			passingAsModel(t, l, []int{d.below(20), ints[d.below(len(ints))]}[d.below(2)])
		} else {
			none++
			zeroOfPassing(t, l)
		}
	}
	if told < 500 || none < 500 {
		t.Errorf("%d are terms without free variables, %d are not", told, none)
	}
}

// Nodes of any fields, none of them from a term.
func TestPassingOfAnyNodes(t *testing.T) {
	d := &dice{state: 2371}
	for range 20000 {
		l := make([]impl.Term, d.below(6))
		for at := range l {
			l[at] = impl.Term{Kind: d.below(5), N: d.below(3) - 1, Up: d.below(at+3) - 2}
		}
		if isProgram(l) {
			passingAsModel(t, l, d.below(12)-1)
		} else {
			zeroOfPassing(t, l)
		}
	}
}

// passingCalls are the functions that answer a term, with one term or two.
func passingCalls() map[string]func(l []impl.Term) ([]impl.Term, bool) {
	out := map[string]func(l []impl.Term) ([]impl.Term, bool){
		"PassTerm":           impl.PassTerm,
		"PassValue":          impl.PassValue,
		"ApplyTerm":          func(l []impl.Term) ([]impl.Term, bool) { return impl.ApplyTerm(l, nodesIn(`\\1`)) },
		"ApplyTerm to it":    func(l []impl.Term) ([]impl.Term, bool) { return impl.ApplyTerm(nodesIn(`\\1`), l) },
		"ApplyTerm twice":    func(l []impl.Term) ([]impl.Term, bool) { return impl.ApplyTerm(l, l) },
		"RunPassed":          func(l []impl.Term) ([]impl.Term, bool) { return impl.RunPassed(l, 100) },
		"RunPassed at once":  func(l []impl.Term) ([]impl.Term, bool) { return impl.RunPassed(l, 2) },
		"RunPassed with all": func(l []impl.Term) ([]impl.Term, bool) { return impl.RunPassed(l, 1000) },
	}
	for _, c := range bringCalls {
		for _, fuel := range []int{0, 1, 50, 1000} {
			out[fmt.Sprint(c.name, " with ", fuel)] = func(l []impl.Term) ([]impl.Term, bool) {
				value, _, ok := c.call(l, fuel)
				return value, ok
			}
		}
	}
	return out
}

// Terms that are given are not written into; what is behind their length is neither read nor handed out; an answer that
// is written over by whoever asked changes nothing of them, and no other answer.
func TestPassingWritesNothing(t *testing.T) {
	all := append(drawnPrograms(2377, 300, 4), wrongTerms()...)
	for _, text := range []string{`\0`, `(\0 \0)`, `(\\1 (\0 \0))`, `\(\0 0)`, selfApplied, wideValue(150), deepValue(40), wideValue(74), "0", `\1`} {
		all = append(all, nodesIn(text))
	}
	for _, plain := range all {
		for _, behind := range [][]impl.Term{{{Kind: impl.TermVar, N: 0}, {Kind: impl.TermVar, Up: -1}}, {{Kind: 99, N: -5, Up: 77}, {}}} {
			l, same := roomy(plain, behind...)
			for what, call := range passingCalls() {
				want, wantOk := call(slices.Clone(plain))
				got, ok := call(l)
				other, _ := call(l)
				toldTerm(t, what+" with something behind", got, ok, want, wantOk)
				isEmptyBehind(t, got)
				fill(got, impl.Term{Kind: 123, N: 123, Up: 123})
				if !slices.Equal(other, want) || !same() {
					t.Errorf("%s of %s: an answer shares memory with it or with another answer", what, short(fmt.Sprint(plain)))
				}
			}
			if impl.IsValue(l) != impl.IsValue(slices.Clone(plain)) || !same() {
				t.Errorf("IsValue(%s): what is behind it is looked at, or written", short(fmt.Sprint(plain)))
			}
		}
	}
}

// Two lists that lie one behind the other in one memory are both left as they are.
func TestApplyTermOfNeighbours(t *testing.T) {
	for _, a := range []string{`\0`, `(\0 \0)`, `\\1`} {
		for _, b := range []string{`\0`, `(\0 \\1)`, wideValue(100)} {
			first, second := nodesIn(a), nodesIn(b)
			memory, same := roomy(slices.Concat(first, second), impl.Term{Kind: 7})
			got, ok := impl.ApplyTerm(memory[:len(first)], memory[len(first):])
			isTerm(t, "ApplyTerm of neighbours", got, ok, "("+a+" "+b+")")
			if !same() {
				t.Errorf("ApplyTerm(%s, %s) writes into them", a, short(b))
			}
		}
	}
}

// Lists of a million nodes and the terms that take longest are answered at once.
func TestPassingInGoodTime(t *testing.T) {
	inTime(t, 60*time.Second, func() {
		for _, n := range []impl.Term{{Kind: impl.TermVar, Up: -1}, {Kind: impl.TermLam, Up: -1}, {Kind: impl.TermApp, Up: -1}, {}} {
			zeroOfPassing(t, slices.Repeat([]impl.Term{n}, 1<<20))
		}
		long := make([]impl.Term, 1<<20)
		for at := range long {
			long[at] = impl.Term{Kind: impl.TermLam, Up: at - 1}
		}
		zeroOfPassing(t, long)
		heavy := []string{
			wideValue(149), wideValue(150), deepValue(40), selfApplied, growingTerm, identities(37, `\0`), doubling(7), doubling(9), doubling(28), "(" + wideValue(74) + " " + wideValue(75) + ")", strings.Repeat(`(\((0 0) 0) `, 20) + `\0` + strings.Repeat(")", 20),
			"((" + numeral(9) + " " + numeral(9) + ") " + numeral(9) + ")", strings.Repeat("("+numeral(2)+" ", 9) + numeral(2) + strings.Repeat(")", 9), strings.Repeat("(", 9) + numeral(2) + strings.Repeat(" "+numeral(2)+")", 9), "(" + wideValue(100) + " " + wideValue(40) + ")", `((\(0 0) \\((1 1) 0)) \0)`, `(\(0 0) \(\(1 1) ` + wideValue(100) + "))", appliedTo(selfApplied, 30, `\0`), appliedTo(`(\\(1 1) \\(1 1))`, 20, `\0`),
		}
		for range 5 {
			for _, text := range heavy {
				l := nodesIn(text)
				if !isProgram(l) {
					t.Errorf("%s is none", short(text))
				}
				for _, fuel := range []int{1000, 999, math.MaxInt, math.MinInt} {
					impl.ValueTerm(l, fuel)
					impl.HeadTerm(l, fuel)
					impl.RunPassed(l, fuel)
				}
				impl.PassTerm(l)
				impl.PassValue(l)
				impl.ApplyTerm(l, l)
			}
		}
	})
}
