package tests

import (
	"fmt"
	"testing"

	"loop.example/g00201/impl"
)

// runs asks for a value with just as much fuel as is needed, with more, and for none with less; of no value, for the zero
// answer with any fuel.
func runs(t *testing.T, text string, want string, steps int) {
	t.Helper()
	fuels := []int{-1, 0, 1, 2, 8, 100, 999, 1000, 1001}
	if want != "" {
		fuels = []int{-1, 0, 1, steps - 1, steps, min(steps+1, 1000), 1000, 1001}
	}
	for _, fuel := range fuels {
		got, ok := impl.RunPassed(nodesIn(text), fuel)
		what := fmt.Sprintf("RunPassed(%s, %d)", short(text), fuel)
		if want == "" || fuel < steps || fuel > 1000 {
			noTerm(t, what, got, ok)
		} else {
			isTerm(t, what, got, ok, want)
		}
	}
}

// passedSteps counts the redexes that are reduced in what PassTerm tells, where so many are by value: six for each, one
// for the last value, one for the lambda x of x.
func passedSteps(byValue int) int { return 6*byValue + 2 }

func TestRunPassedByHand(t *testing.T) {
	runs(t, `\0`, `\\(0 1)`, 2)
	runs(t, `\\1`, `\\(0 \\(0 3))`, 2)
	runs(t, `\(\0 0)`, `\\(\(0 \\(0 1)) \(\(0 3) \((1 0) 2)))`, 2)
	runs(t, `(\0 \0)`, `\\(0 1)`, 8)
	runs(t, `(\0 (\0 \\1))`, `\\(0 \\(0 3))`, 14)
	runs(t, `((\0 \0) \\1)`, `\\(0 \\(0 3))`, 14)
	runs(t, `(\\1 \0)`, `\\(0 \\(0 1))`, 8)
	runs(t, `(\\1 (\0 \0))`, `\\(0 \\(0 1))`, 14)
	runs(t, `(\(0 0) (\0 \0))`, `\\(0 1)`, 20)
	runs(t, `((\\1 \\0) \0)`, `\\(0 \\(0 1))`, 14)
	// It is by value: an argument that is not needed has no end either.
	runs(t, `(\\0 `+selfApplied+")", "", 0)
	runs(t, `((\\1 \0) `+selfApplied+")", "", 0)
	runs(t, `\`+selfApplied, `\`+passedText(selfApplied), 2)
}

// passedText is what a term comes to, by the model.
func passedText(text string) string {
	return spell(passModel{}.term(lamTermOf(nodesIn(text))).list())
}

// PassTerm is told, but the term that is run then has no end, or grows beyond all.
func TestRunPassedWithoutEnd(t *testing.T) {
	for _, text := range []string{selfApplied, `(\0 ` + selfApplied + ")", `((\0 \(0 0)) \(0 0))`} {
		if _, ok := impl.PassTerm(nodesIn(text)); !ok {
			t.Errorf("PassTerm(%s) is not told", text)
		}
		runs(t, text, "", 0)
	}
	grown := 0
	for _, l := range drawnPrograms(2287, 3000, 4) {
		passed, ok := impl.PassTerm(l)
		whole, applied := impl.ApplyTerm(passed, nodesIn(`\0`))
		_, steps, alsoOk := impl.ValueTerm(l, 100)
		if !ok || !applied || !alsoOk {
			continue
		}
		// There is fuel enough, so it has grown too great.
		if _, _, ok := impl.HeadTerm(whole, 1000); !ok && passedSteps(steps) <= 1000 {
			grown++
			runs(t, spell(l), "", 0)
		}
	}
	if grown < 20 {
		t.Errorf("only %d have grown", grown)
	}
}

// What PassTerm tells may be good, and its application to the lambda x of x not.
func TestRunPassedToLimits(t *testing.T) {
	for _, c := range []struct {
		text   string
		passed bool
		run    bool
	}{
		{lambdas(4, bushy(19, 0)), true, true}, {lambdas(1, bushy(21, 0)), true, false}, {lambdas(5, bushy(19, 0)), true, false}, {lambdas(9, bushy(17, 0)), false, false},
		{lambdas(10, "(0 0)"), true, true}, {lambdas(12, "0"), true, true}, {lambdas(10, "((0 0) 0)"), true, false}, {lambdas(11, "(0 0)"), false, false},
	} {
		if _, ok := impl.PassTerm(nodesIn(c.text)); ok != c.passed {
			t.Errorf("PassTerm(%s): %v", c.text, ok)
		}
		want := ""
		if c.run {
			value, _ := modelPassValue(nodesIn(c.text))
			want = spell(value)
		}
		runs(t, c.text, want, 2)
	}
}

// Plotkin's simulation: what is run is PassValue of the value, by six redexes for each one by value; where there is no value
// nothing is run to its end, as the term that is run is at least as great.
func TestSimulation(t *testing.T) {
	values, others := 0, 0
	for _, l := range append(drawnPrograms(2293, 3000, 4), drawnPrograms(2297, 500, 7)...) {
		value, steps, ok := impl.ValueTerm(l, 166)
		if !ok {
			got, ok := impl.RunPassed(l, 1000)
			_, _, byFuel := impl.ValueTerm(l, 1000)
			if !byFuel {
				others++
				noTerm(t, "RunPassed of "+spell(l)+", which has no value", got, ok)
			}
			continue
		}
		got, ok := impl.RunPassed(l, 1000)
		if !ok {
			continue
		}
		values++
		want, wantOk := impl.PassValue(value)
		toldTerm(t, "RunPassed "+spell(l), got, ok, want, wantOk)
		if wantOk {
			runs(t, spell(l), spell(want), passedSteps(steps))
		}
	}
	if values < 1500 || others < 50 {
		t.Errorf("%d have a value, %d have none", values, others)
	}
}

// Plotkin's indifference: in what PassTerm tells each argument is a lambda, so that by value and by name are the same.
func TestIndifference(t *testing.T) {
	d := &dice{state: 2309}
	both, none := 0, 0
	for _, l := range append(drawnPrograms(2311, 2500, 4), drawnPrograms(2333, 400, 7)...) {
		passed, ok := impl.PassTerm(l)
		if !ok {
			continue
		}
		for _, then := range []string{`\0`, `\\1`, `\\0`, `\(0 0)`} {
			whole, ok := impl.ApplyTerm(passed, nodesIn(then))
			fuel := d.below(60)
			want, steps, wantOk := impl.HeadTerm(whole, fuel)
			got, took, gotOk := impl.ValueTerm(whole, fuel)
			toldTerm(t, fmt.Sprintf("ValueTerm(%s, %d) as HeadTerm", spell(passed), fuel), got, gotOk, want, wantOk)
			if steps != took {
				t.Errorf("%s: %d redexes by name, %d by value", spell(passed), steps, took)
			}
			if ok && wantOk {
				both++
			} else {
				none++
			}
		}
	}
	if both < 3000 || none < 1000 {
		t.Errorf("%d are told by both, %d by neither", both, none)
	}
}

func runsAsModel(t *testing.T, l []impl.Term, fuel int) bool {
	t.Helper()
	want, wantOk := modelRunPassed(l, fuel)
	got, ok := impl.RunPassed(l, fuel)
	toldTerm(t, fmt.Sprintf("RunPassed(%s, %d)", short(fmt.Sprint(l)), fuel), got, ok, want, wantOk)
	return ok
}

func TestRunPassedAsModel(t *testing.T) {
	d := &dice{state: 2339}
	told, none := 0, 0
	all := append(drawnPrograms(2341, 500, 4), drawnPrograms(2347, 100, 7)...)
	for nodes := 2; nodes <= 8; nodes++ {
		for _, text := range eachClosed(nodes, 0) {
			all = append(all, nodesIn(text))
		}
	}
	for _, l := range all {
		if runsAsModel(t, l, d.below(30)) {
			told++
		} else {
			none++
		}
	}
	if told < 300 || none < 200 {
		t.Errorf("%d are told, %d are not", told, none)
	}
	for _, text := range []string{`\0`, `(\0 \0)`, selfApplied} {
		for _, fuel := range append(wrongInts(), -1, 0, 1, 2, 3, 7, 8, 9, 1000, 1001) {
			runsAsModel(t, nodesIn(text), fuel)
		}
	}
}
