package tests

import (
	"fmt"
	"math"
	"slices"
	"strings"
	"testing"
	"time"

	"loop.example/g00201/impl"
)

// wrongTerms are nodes that are no good term, one wrong way each.
func wrongTerms() [][]impl.Term {
	v := impl.Term{Kind: impl.TermVar, Up: -1}
	inner := impl.Term{Kind: impl.TermVar}
	lam := impl.Term{Kind: impl.TermLam, Up: -1}
	app := impl.Term{Kind: impl.TermApp, Up: -1}
	out := [][]impl.Term{
		nil, {}, make([]impl.Term, 1), make([]impl.Term, 150), make([]impl.Term, 100000), {{}}, {v, v}, {v, inner}, {inner}, {lam}, {app}, {lam, v}, {lam, inner, inner}, {app, inner}, {app, inner, v}, {app, inner, inner, inner}, {lam, inner, v},
		{lam, {Kind: impl.TermLam}, {Kind: impl.TermVar}}, {app, {Kind: impl.TermLam}, inner, inner}, {app, {Kind: impl.TermLam}, {Kind: impl.TermVar, Up: 1}, {Kind: impl.TermVar, Up: 1}}, {app, inner, {Kind: impl.TermVar, Up: 1}}, {app, {Kind: impl.TermVar, Up: 1}, inner}, {lam, {Kind: impl.TermVar, Up: 1}}, {lam, {Kind: impl.TermVar, N: 100}},
		nodesIn(bushy(151, 0)), nodesIn(lambdas(40, "0")), nodesIn("100"), nodesIn(`\(0 (1 100))`), slices.Concat(nodesIn(`\0`), nodesIn(`\0`)),
		slices.Repeat([]impl.Term{v}, 3), slices.Repeat([]impl.Term{lam}, 150), slices.Repeat([]impl.Term{app}, 149),
	}
	for _, n := range append(wrongInts(), -3, 7, 8) {
		if n != -1 {
			out = append(out, []impl.Term{{Kind: impl.TermVar, Up: n}})
		}
		out = append(out, []impl.Term{{Kind: n, Up: -1}}, []impl.Term{lam, {Kind: n}}, []impl.Term{lam, {Kind: impl.TermVar, Up: n}}, []impl.Term{app, inner, {Kind: impl.TermVar, Up: n}}, []impl.Term{{Kind: impl.TermLam, N: n, Up: -1}, inner}, []impl.Term{{Kind: impl.TermApp, N: n, Up: -1}, inner, inner})
	}
	return out
}

// zeroOfTerm asks every function of a term for the zero answer.
func zeroOfTerm(t *testing.T, l []impl.Term) {
	t.Helper()
	what := short(fmt.Sprint(l))
	if impl.GoodTerm(l) {
		t.Errorf("GoodTerm(%s) is true", what)
	}
	text, ok := impl.TermText(l)
	refused(t, "TermText "+what, text, ok)
	free, ok := impl.FreeIn(l)
	redexes, alsoOk := impl.RedexesIn(l)
	reducts, lastOk := impl.ReductsOf(l)
	if len(free) > 0 || len(redexes) > 0 || len(reducts) > 0 || ok || alsoOk || lastOk {
		t.Errorf("%s: free %v, %v; redexes %v, %v; reducts %q, %v", what, free, ok, redexes, alsoOk, reducts, lastOk)
	}
	for _, n := range []int{0, 1, -1, 5} {
		got, ok := impl.ShiftTerm(l, n, 0)
		noTerm(t, "ShiftTerm "+what, got, ok)
		got, ok = impl.ReduceAt(l, n)
		noTerm(t, "ReduceAt "+what, got, ok)
		for _, other := range [][]impl.Term{nodesIn("0"), nodesIn(`\(0 1)`), l} {
			got, ok = impl.SubstTerm(l, n, other)
			noTerm(t, "SubstTerm of "+what, got, ok)
			got, ok = impl.SubstTerm(other, n, l)
			noTerm(t, "SubstTerm with "+what, got, ok)
		}
		got, steps, ok := impl.NormalTerm(l, n)
		noTerm(t, "NormalTerm "+what, got, ok)
		if steps != 0 {
			t.Errorf("NormalTerm(%s): %d beside false", what, steps)
		}
	}
	got, ok := impl.DevelopTerm(l)
	noTerm(t, "DevelopTerm "+what, got, ok)
}

// termAsModel holds every function of a good term against the models.
func termAsModel(t *testing.T, l []impl.Term, n int, m int, s []impl.Term) {
	t.Helper()
	isGoodTerm(t, l, true)
	isSpelled(t, l, spell(l))
	free, ok := impl.FreeIn(l)
	redexes, alsoOk := impl.RedexesIn(l)
	if !slices.Equal(free, modelFree(l)) || !slices.Equal(redexes, modelRedexes(l)) || !ok || !alsoOk {
		t.Errorf("%s: free %v, %v; redexes %v, %v", spell(l), free, ok, redexes, alsoOk)
	}
	want, wantOk := modelShift(l, n, m)
	got, ok := impl.ShiftTerm(l, n, m)
	toldTerm(t, "ShiftTerm "+spell(l), got, ok, want, wantOk)
	want, wantOk = modelSubst(l, n, s)
	got, ok = impl.SubstTerm(l, n, s)
	toldTerm(t, "SubstTerm "+spell(l), got, ok, want, wantOk)
	want, wantOk = modelReduceAt(l, n)
	got, ok = impl.ReduceAt(l, n)
	toldTerm(t, "ReduceAt "+spell(l), got, ok, want, wantOk)
	want, wantOk = modelDevelop(l)
	got, ok = impl.DevelopTerm(l)
	toldTerm(t, "DevelopTerm "+spell(l), got, ok, want, wantOk)
	texts, wantOk := modelReducts(l)
	reducts, ok := impl.ReductsOf(l)
	if !slices.Equal(reducts, texts) || ok != wantOk {
		t.Errorf("ReductsOf %s: %q, %v", spell(l), reducts, ok)
	}
	want, wantSteps, wantOk := modelNormal(l, n)
	got, steps, ok := impl.NormalTerm(l, n)
	toldTerm(t, "NormalTerm "+spell(l), got, ok, want, wantOk)
	if steps != wantSteps {
		t.Errorf("NormalTerm %s: %d steps", spell(l), steps)
	}
}

func TestWrongTerms(t *testing.T) {
	for _, l := range wrongTerms() {
		zeroOfTerm(t, l)
	}
}

// Terms of which any fields are changed are good or not as the model says, and all functions answer them.
func TestTermsOfAnyFields(t *testing.T) {
	d := &dice{state: 1489}
	ints := append(wrongInts(), -3, -1, 0, 0, 1, 1, 2, 2, 3, 3, 4, 5, 98, 99, 100)
	terms := drawnTerms(1493, 8000, 12)
	good := 0
	for _, l := range terms {
		for range d.below(3) {
			n := &l[d.below(len(l))]
			to := ints[d.below(len(ints))]
			switch d.below(3) {
			case 0:
				n.Kind = to
			case 1:
				n.N = to
			default:
				n.Up = to
			}
		}
		if modelGoodTerm(l) {
			good++
			termAsModel(t, l, ints[d.below(len(ints))], ints[d.below(len(ints))], nodesIn(`\(0 1)`))
		} else {
			zeroOfTerm(t, l)
		}
	}
	if good < 1000 || good > 7000 {
		t.Errorf("%d of 8000 terms are good", good)
	}
}

// Nodes of any fields, none of them from a term.
func TestAnyNodes(t *testing.T) {
	d := &dice{state: 1499}
	for range 20000 {
		l := make([]impl.Term, d.below(6))
		for at := range l {
			l[at] = impl.Term{Kind: d.below(5), N: d.below(3) - 1, Up: d.below(at+3) - 2}
		}
		if modelGoodTerm(l) {
			termAsModel(t, l, d.below(4)-1, d.below(4)-1, nodesIn("7"))
		} else {
			zeroOfTerm(t, l)
		}
	}
}

// termCalls are the functions that answer a term, with one term or two.
func termCalls() map[string]func(l []impl.Term) ([]impl.Term, bool) {
	return map[string]func(l []impl.Term) ([]impl.Term, bool){
		"ShiftTerm":        func(l []impl.Term) ([]impl.Term, bool) { return impl.ShiftTerm(l, 3, 1) },
		"ShiftTerm by 0":   func(l []impl.Term) ([]impl.Term, bool) { return impl.ShiftTerm(l, 0, 0) },
		"ShiftTerm of no":  func(l []impl.Term) ([]impl.Term, bool) { return impl.ShiftTerm(l, 1, 99) },
		"SubstTerm":        func(l []impl.Term) ([]impl.Term, bool) { return impl.SubstTerm(l, 0, nodesIn(`\(0 2)`)) },
		"SubstTerm of it":  func(l []impl.Term) ([]impl.Term, bool) { return impl.SubstTerm(l, 0, l) },
		"SubstTerm by it":  func(l []impl.Term) ([]impl.Term, bool) { return impl.SubstTerm(nodesIn("0"), 0, l) },
		"SubstTerm of no":  func(l []impl.Term) ([]impl.Term, bool) { return impl.SubstTerm(l, 99, l) },
		"ReduceAt":         func(l []impl.Term) ([]impl.Term, bool) { return impl.ReduceAt(l, 0) },
		"ReduceAt further": func(l []impl.Term) ([]impl.Term, bool) { return impl.ReduceAt(l, 5) },
		"DevelopTerm":      impl.DevelopTerm,
		"NormalTerm": func(l []impl.Term) ([]impl.Term, bool) {
			out, _, ok := impl.NormalTerm(l, 50)
			return out, ok
		},
		"NormalTerm at once": func(l []impl.Term) ([]impl.Term, bool) {
			out, _, ok := impl.NormalTerm(l, 0)
			return out, ok
		},
	}
}

// Terms that are given are not written into; what is behind their length is neither read nor handed out; an answer that
// is written over by whoever asked changes nothing of them, and no other answer.
func TestTermsAreNotWritten(t *testing.T) {
	all := append(drawnTerms(1511, 400, 20), wrongTerms()...)
	for _, text := range []string{"0", `\0`, `(\(0 0) (\0 3))`, selfApplied, bushy(150, 0), lambdas(39, "0"), `(\0 5)`, `\(\0 0)`} {
		all = append(all, nodesIn(text))
	}
	for _, plain := range all {
		l, same := roomy(plain, impl.Term{Kind: impl.TermVar, N: 1}, impl.Term{Kind: 99, N: -5, Up: 77}, impl.Term{Kind: impl.TermVar, Up: -1})
		for what, call := range termCalls() {
			want, wantOk := call(slices.Clone(plain))
			got, ok := call(l)
			other, _ := call(l)
			toldTerm(t, what+" with something behind", got, ok, want, wantOk)
			isEmptyBehind(t, got)
			fill(got, impl.Term{Kind: 123, N: 123, Up: 123})
			if !slices.Equal(other, want) || !same() {
				t.Errorf("%s of %s: an answer shares memory with it or with another answer", what, short(fmt.Sprint(plain)))
			}
		}
		for _, call := range []func([]impl.Term) ([]int, bool){impl.FreeIn, impl.RedexesIn} {
			want, wantOk := call(slices.Clone(plain))
			got, ok := call(l)
			other, _ := call(l)
			if !slices.Equal(got, want) || ok != wantOk {
				t.Errorf("%s: %v, %v; wanted %v, %v", short(fmt.Sprint(plain)), got, ok, want, wantOk)
			}
			isEmptyBehind(t, got)
			fill(got, -1)
			if !slices.Equal(other, want) {
				t.Errorf("%s: two answers share memory", short(fmt.Sprint(plain)))
			}
		}
		want, wantOk := impl.ReductsOf(slices.Clone(plain))
		ownMemory(t, "ReductsOf", want, wantOk, func() ([]string, bool) { return impl.ReductsOf(l) })
		text, wantOk := impl.TermText(slices.Clone(plain))
		if got, ok := impl.TermText(l); got != text || ok != wantOk || impl.GoodTerm(l) != wantOk {
			t.Errorf("TermText with something behind: %q, %v; wanted %q, %v", short(got), ok, short(text), wantOk)
		}
		if !same() {
			t.Errorf("%s was written into", short(fmt.Sprint(plain)))
		}
	}
}

// Texts of any bytes are answered, and terms alone with true.
func TestReadTermOfAnyBytes(t *testing.T) {
	d := &dice{state: 1523}
	read := 0
	for range 60000 {
		text := []byte(d.term(1+d.below(9), 0, 12))
		for range d.below(3) {
			at := d.below(len(text))
			sign := `\() 0123456789`[d.below(14)]
			if d.below(5) == 0 {
				sign = byte(d.below(256))
			}
			switch d.below(3) {
			case 0:
				text[at] = sign
			case 1:
				text = slices.Insert(text, at, sign)
			default:
				text = slices.Delete(text, at, at+1)
				if len(text) == 0 {
					text = []byte{sign}
				}
			}
		}
		if readTermAsModel(t, string(text)) {
			read++
		}
	}
	if read < 10000 || read > 50000 {
		t.Errorf("%d of 60000 texts are read", read)
	}
}

// Texts that are given stay as they are, what is behind them is not read, and what is read is new memory every time.
func TestReadTermsAreAlone(t *testing.T) {
	for _, s := range []string{"", "0", "1", "99", `\0`, "(0 1)", "(0 1", "(0", "(", `\`, `(\(0 0) (\0 3))`, bushy(150, 0), bushy(151, 0), "x"} {
		text, _, same := given(s)
		want, wantOk := impl.ReadTerm(strings.Clone(s))
		got, ok := impl.ReadTerm(text)
		other, _ := impl.ReadTerm(text)
		toldTerm(t, fmt.Sprintf("ReadTerm(%q)", short(s)), got, ok, want, wantOk)
		fill(got, impl.Term{Kind: 123})
		if !slices.Equal(other, want) || !same() {
			t.Errorf("%q was written into, or two answers to it share memory", short(s))
		}
	}
}

// Texts of a megabyte, lists of a million nodes and the terms that take longest are answered at once.
func TestLambdasInGoodTime(t *testing.T) {
	inTime(t, 60*time.Second, func() {
		for _, part := range []string{`\`, "(", ")", " ", "0", "9", "(0 ", "((", " 0)", `(\0 `, "x", "\x00", "\xff", "0 "} {
			for _, end := range []string{"", "0", " 0)", ")"} {
				text := strings.Repeat(part, 1<<20) + end
				l, ok := impl.ReadTerm(text)
				noTerm(t, fmt.Sprintf("ReadTerm(%q)", short(text)), l, ok)
			}
		}
		for _, n := range []impl.Term{{Kind: impl.TermVar, Up: -1}, {Kind: impl.TermLam, Up: -1}, {Kind: impl.TermApp, Up: -1}, {}} {
			zeroOfTerm(t, slices.Repeat([]impl.Term{n}, 1<<20))
		}
		long := make([]impl.Term, 1<<20)
		for at := range long {
			long[at] = impl.Term{Kind: impl.TermLam, Up: at - 1}
		}
		zeroOfTerm(t, long)
		heavy := []string{
			bushy(149, 0), bushy(150, 0), selfApplied, growingTerm, identities(37, `\0`), doubling(9), doubling(7), strings.Repeat(`(\(0 0) `, 29) + "0" + strings.Repeat(")", 29), strings.Repeat(`(\((0 0) 0) `, 20) + "0" + strings.Repeat(")", 20),
			`(\` + bushy(73, 0) + " " + bushy(73, 0) + ")", strings.Repeat(`(\(0 0) `, 12) + bushy(75, 0) + strings.Repeat(")", 12), "((" + numeral(9) + " " + numeral(9) + ") " + numeral(9) + ")", strings.Repeat("("+numeral(2)+" ", 9) + numeral(2) + strings.Repeat(")", 9), strings.Repeat("(", 9) + numeral(2) + strings.Repeat(" "+numeral(2)+")", 9),
			strings.Repeat(`(\\1 `, 20) + "0" + strings.Repeat(")", 20), strings.Repeat(`((\0 1) `, 24) + "0" + strings.Repeat(")", 24), strings.Repeat(`(\(\0 0) `, 20) + "0" + strings.Repeat(")", 20),
		}
		for range 20 {
			for _, text := range heavy {
				l := nodesIn(text)
				if !impl.GoodTerm(l) {
					t.Errorf("%s is not good", short(text))
				}
				impl.SubstTerm(l, 0, l)
				impl.DevelopTerm(l)
				impl.ReductsOf(l)
				impl.NormalTerm(l, 1000)
				for k := range 10 {
					impl.ReduceAt(l, k)
				}
				impl.ShiftTerm(l, math.MaxInt, math.MinInt)
			}
		}
	})
}
