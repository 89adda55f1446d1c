package tests

import (
	"fmt"
	"slices"
	"strings"
	"testing"
	"time"

	"loop.example/g00201/impl"
)

// wrongCombs are nodes that are no good combinator, one wrong way each.
func wrongCombs() [][]impl.Comb {
	v := impl.Comb{Kind: impl.CombVar, Up: -1}
	inner := impl.Comb{Kind: impl.CombVar}
	app := impl.Comb{Kind: impl.CombApp, Up: -1}
	letter := impl.Comb{Kind: impl.CombI, Up: -1}
	out := [][]impl.Comb{
		nil, {}, make([]impl.Comb, 1), make([]impl.Comb, 200), make([]impl.Comb, 100000), {{}}, {v, v}, {v, inner}, {inner}, {app}, {letter, inner}, {letter, letter}, {app, inner}, {app, inner, v}, {app, v, inner}, {app, inner, inner, inner}, {app, inner, inner, v},
		{app, {Kind: impl.CombApp}, inner, inner}, {app, {Kind: impl.CombApp}, {Kind: impl.CombVar, Up: 1}, inner, inner}, {app, {Kind: impl.CombApp}, {Kind: impl.CombVar, Up: 1}, {Kind: impl.CombVar, Up: 1}, {Kind: impl.CombVar, Up: 1}}, {app, inner, {Kind: impl.CombVar, Up: 1}}, {app, {Kind: impl.CombVar, Up: 1}, inner}, {app, {Kind: impl.CombS}, {Kind: impl.CombVar, Up: 1}}, {app, {Kind: impl.CombVar, N: 1000}, inner},
		combIn(wideComb(201, "S")), combIn(behindAll("K", 60, "I")), combIn(appliedTo("x1", 60, "I")), combIn("x1000"), combIn("(I (x1 x1000))"), slices.Concat(combIn("(I S)"), combIn("(I S)")),
		slices.Repeat([]impl.Comb{v}, 3), slices.Repeat([]impl.Comb{letter}, 200), slices.Repeat([]impl.Comb{app}, 199),
	}
	for _, n := range append(wrongInts(), -3, 7, 8) {
		if n != -1 {
			out = append(out, []impl.Comb{{Kind: impl.CombVar, Up: n}}, []impl.Comb{{Kind: impl.CombK, Up: n}})
		}
		out = append(out, []impl.Comb{{Kind: n, Up: -1}}, []impl.Comb{app, inner, {Kind: n}}, []impl.Comb{app, {Kind: n}, inner}, []impl.Comb{app, inner, {Kind: impl.CombVar, Up: n}}, []impl.Comb{app, {Kind: impl.CombI, Up: n}, inner}, []impl.Comb{{Kind: impl.CombS, N: n, Up: -1}}, []impl.Comb{{Kind: impl.CombApp, N: n, Up: -1}, inner, inner}, []impl.Comb{app, {Kind: impl.CombI, N: n}, inner})
	}
	return out
}

// zeroOfComb asks every function of a combinator for the zero answer.
func zeroOfComb(t *testing.T, l []impl.Comb) {
	t.Helper()
	what := short(fmt.Sprint(l[:min(len(l), 20)]))
	if impl.GoodComb(l) {
		t.Errorf("GoodComb(%s) is true", what)
	}
	text, ok := impl.CombText(l)
	refused(t, "CombText "+what, text, ok)
	for _, n := range []int{0, 1, -1, 1000} {
		got, ok := impl.AbstractComb(l, n)
		isComb(t, "AbstractComb "+what, got, ok, "")
		for _, other := range [][]impl.Comb{combIn("x0"), combIn("(x0 (K x1))"), l} {
			got, ok = impl.PutComb(l, n, other)
			isComb(t, "PutComb of "+what, got, ok, "")
			got, ok = impl.PutComb(other, n, l)
			isComb(t, "PutComb with "+what, got, ok, "")
		}
		got, steps, ok := impl.NormalComb(l, n)
		isComb(t, "NormalComb "+what, got, ok, "")
		if steps != 0 {
			t.Errorf("NormalComb(%s): %d beside false", what, steps)
		}
	}
	got, ok := impl.StepComb(l)
	isComb(t, "StepComb "+what, got, ok, "")
}

// combAsModel holds every function of a good combinator against the models.
func combAsModel(t *testing.T, l []impl.Comb, n int, s []impl.Comb) {
	t.Helper()
	isGoodComb(t, l, true)
	isSpelledComb(t, l, spellComb(l))
	want, wantOk := modelAbstract(l, n)
	got, ok := impl.AbstractComb(l, n)
	toldComb(t, "AbstractComb "+spellComb(l), got, ok, want, wantOk)
	want, wantOk = modelPut(l, n, s)
	got, ok = impl.PutComb(l, n, s)
	toldComb(t, "PutComb "+spellComb(l), got, ok, want, wantOk)
	want, wantOk = modelStep(l)
	got, ok = impl.StepComb(l)
	toldComb(t, "StepComb "+spellComb(l), got, ok, want, wantOk)
	want, wantSteps, wantOk := modelNormalComb(l, n)
	got, steps, ok := impl.NormalComb(l, n)
	toldComb(t, "NormalComb "+spellComb(l), got, ok, want, wantOk)
	if steps != wantSteps {
		t.Errorf("NormalComb %s: %d steps", spellComb(l), steps)
	}
}

func TestWrongCombs(t *testing.T) {
	for _, l := range wrongCombs() {
		zeroOfComb(t, l)
	}
}

// Combinators of which any fields are changed are good or not as the model says, and all functions answer them.
func TestCombsOfAnyFields(t *testing.T) {
	d := &dice{state: 1811}
	ints := append(wrongInts(), -3, -1, 0, 0, 1, 1, 2, 2, 3, 3, 4, 5, 6, 998, 999, 1000)
	good := 0
	for _, l := range drawnCombs(1823, 8000, 8) {
		for range d.below(3) {
			n := &l[d.below(len(l))]
			to := ints[d.below(len(ints))]
			switch d.below(3) {
			case 0:
				n.Kind = to
			case 1:
				n.N = to
			default:
				n.Up = to
			}
		}
		if modelGoodComb(l) {
			good++
			combAsModel(t, l, ints[d.below(len(ints))], combIn("(x0 (S x1))"))
		} else {
			zeroOfComb(t, l)
		}
	}
	if good < 1000 || good > 7000 {
		t.Errorf("%d of 8000 combinators are good", good)
	}
}

// Nodes of any fields, none of them from a combinator.
func TestAnyCombNodes(t *testing.T) {
	d := &dice{state: 1831}
	for range 20000 {
		l := make([]impl.Comb, d.below(6))
		for at := range l {
			l[at] = impl.Comb{Kind: d.below(7), N: d.below(3) - 1, Up: d.below(at+3) - 2}
		}
		if modelGoodComb(l) {
			combAsModel(t, l, d.below(4)-1, combIn("x7"))
		} else {
			zeroOfComb(t, l)
		}
	}
}

// What is no good term has no combinator.
func TestCombOfWrongTerms(t *testing.T) {
	terms := wrongTerms()
	d := &dice{state: 1847}
	ints := append(wrongInts(), -3, -1, 0, 1, 2, 3, 4, 99, 100)
	for _, l := range drawnTerms(1861, 4000, 12) {
		n := &l[d.below(len(l))]
		field := []*int{&n.Kind, &n.N, &n.Up}[d.below(3)]
		*field = ints[d.below(len(ints))]
		terms = append(terms, l)
	}
	wrong := 0
	for _, l := range terms {
		var want []impl.Comb
		wantOk := false
		if modelGoodTerm(l) {
			want, wantOk = modelCombOfTerm(l)
		} else {
			wrong++
		}
		got, ok := impl.CombOfTerm(l)
		toldComb(t, "CombOfTerm "+short(fmt.Sprint(l)), got, ok, want, wantOk)
	}
	if wrong < 2000 {
		t.Errorf("only %d are wrong", wrong)
	}
}

// combCalls are the functions that answer a combinator, with one combinator or two.
func combCalls() map[string]func(l []impl.Comb) ([]impl.Comb, bool) {
	return map[string]func(l []impl.Comb) ([]impl.Comb, bool){
		"AbstractComb":       func(l []impl.Comb) ([]impl.Comb, bool) { return impl.AbstractComb(l, 0) },
		"AbstractComb of no": func(l []impl.Comb) ([]impl.Comb, bool) { return impl.AbstractComb(l, 999) },
		"PutComb":            func(l []impl.Comb) ([]impl.Comb, bool) { return impl.PutComb(l, 0, combIn("(x0 I)")) },
		"PutComb of it":      func(l []impl.Comb) ([]impl.Comb, bool) { return impl.PutComb(l, 0, l) },
		"PutComb by it":      func(l []impl.Comb) ([]impl.Comb, bool) { return impl.PutComb(combIn("x0"), 0, l) },
		"PutComb of no":      func(l []impl.Comb) ([]impl.Comb, bool) { return impl.PutComb(l, 999, l) },
		"StepComb":           impl.StepComb,
		"NormalComb": func(l []impl.Comb) ([]impl.Comb, bool) {
			out, _, ok := impl.NormalComb(l, 50)
			return out, ok
		},
		"NormalComb at once": func(l []impl.Comb) ([]impl.Comb, bool) {
			out, _, ok := impl.NormalComb(l, 0)
			return out, ok
		},
	}
}

// Combinators that are given are not written into; what is behind their length is neither read nor handed out; an
// answer that is written over by whoever asked changes nothing of them, and no other answer.
func TestCombsAreNotWritten(t *testing.T) {
	all := append(drawnCombs(1867, 600, 20), wrongCombs()...)
	for _, text := range []string{"x0", "I", "(x1 x0)", "(x0 x0)", "(I x0)", "((K x0) x1)", "(((S x0) x1) x2)", "(I (I x0))", wideComb(199, "x0"), behindAll("x0", 59, "I")} {
		all = append(all, combIn(text))
	}
	for _, plain := range all {
		l, same := roomy(plain, impl.Comb{Kind: impl.CombVar, N: 1}, impl.Comb{Kind: 99, N: -5, Up: 77}, impl.Comb{Kind: impl.CombVar, Up: -1})
		for what, call := range combCalls() {
			want, wantOk := call(slices.Clone(plain))
			got, ok := call(l)
			other, _ := call(l)
			toldComb(t, what+" with something behind", got, ok, want, wantOk)
			isEmptyBehind(t, got)
			fill(got, impl.Comb{Kind: 123, N: 123, Up: 123})
			if !slices.Equal(other, want) || !same() {
				t.Errorf("%s of %s: an answer shares memory with it or with another answer", what, short(fmt.Sprint(plain)))
			}
		}
		text, wantOk := impl.CombText(slices.Clone(plain))
		if got, ok := impl.CombText(l); got != text || ok != wantOk || impl.GoodComb(l) != wantOk {
			t.Errorf("CombText with something behind: %q, %v; wanted %q, %v", short(got), ok, short(text), wantOk)
		}
		if !same() {
			t.Errorf("%s was written into", short(fmt.Sprint(plain)))
		}
	}
}

// The same for the terms that combinators are made of.
func TestTermsOfCombsAreNotWritten(t *testing.T) {
	for _, plain := range append(drawnTerms(1871, 600, 20), wrongTerms()...) {
		l, same := roomy(plain, impl.Term{Kind: impl.TermVar, N: 1}, impl.Term{Kind: impl.TermVar, Up: -1})
		want, wantOk := impl.CombOfTerm(slices.Clone(plain))
		got, ok := impl.CombOfTerm(l)
		other, _ := impl.CombOfTerm(l)
		toldComb(t, "CombOfTerm with something behind", got, ok, want, wantOk)
		isEmptyBehind(t, got)
		fill(got, impl.Comb{Kind: 123, N: 123, Up: 123})
		if !slices.Equal(other, want) || !same() {
			t.Errorf("CombOfTerm of %s: an answer shares memory with it or with another answer", short(fmt.Sprint(plain)))
		}
	}
}

// Texts of any bytes are answered, and combinators alone with true.
func TestReadCombOfAnyBytes(t *testing.T) {
	d := &dice{state: 1873}
	read := 0
	for range 60000 {
		text := []byte(d.comb(1+d.below(6), 1200))
		for range d.below(3) {
			at := d.below(len(text))
			sign := "() xSKI0123456789"[d.below(17)]
			if d.below(5) == 0 {
				sign = byte(d.below(256))
			}
			switch d.below(3) {
			case 0:
				text[at] = sign
			case 1:
				text = slices.Insert(text, at, sign)
			default:
				text = slices.Delete(text, at, at+1)
				if len(text) == 0 {
					text = []byte{sign}
				}
			}
		}
		if readCombAsModel(t, string(text)) {
			read++
		}
	}
	if read < 10000 || read > 50000 {
		t.Errorf("%d of 60000 texts are read", read)
	}
}

// Texts that are given stay as they are, what is behind them is not read, and what is read is new memory every time.
func TestReadCombsAreAlone(t *testing.T) {
	for _, s := range []string{"", "x", "x0", "x1", "x99", "x999", "S", "K", "I", "(x0 x1)", "(x0 x1", "(x0 x", "(x0 ", "(x0", "(", "((S K) (I x3))", wideComb(199, "x0"), wideComb(201, "x0"), "y"} {
		text, _, same := given(s)
		want, wantOk := impl.ReadComb(strings.Clone(s))
		got, ok := impl.ReadComb(text)
		other, _ := impl.ReadComb(text)
		toldComb(t, fmt.Sprintf("ReadComb(%q)", short(s)), got, ok, want, wantOk)
		fill(got, impl.Comb{Kind: 123})
		if !slices.Equal(other, want) || !same() {
			t.Errorf("%q was written into, or two answers to it share memory", short(s))
		}
	}
}

// Texts of a megabyte, lists of a million nodes and what takes longest are answered at once.
func TestCombsInGoodTime(t *testing.T) {
	inTime(t, 60*time.Second, func() {
		for _, part := range []string{"(", ")", " ", "x", "x0", "9", "(S ", "((", " K)", "(I ", "I", "\x00", "\xff", "S ", "x9"} {
			for _, end := range []string{"", "S", " K)", ")"} {
				text := strings.Repeat(part, 1<<20) + end
				l, ok := impl.ReadComb(text)
				isComb(t, fmt.Sprintf("ReadComb(%q)", short(text)), l, ok, "")
			}
		}
		for _, n := range []impl.Comb{{Kind: impl.CombVar, Up: -1}, {Kind: impl.CombApp, Up: -1}, {Kind: impl.CombS, Up: -1}, {}} {
			zeroOfComb(t, slices.Repeat([]impl.Comb{n}, 1<<20))
		}
		long := make([]impl.Comb, 1<<20)
		for at := range long {
			long[at] = impl.Comb{Kind: impl.CombApp, Up: at - 1}
		}
		zeroOfComb(t, long)
		heavy := []string{wideComb(199, "S"), wideComb(199, "x0"), wideComb(199, "K"), wideComb(199, "I"), appliedTo("S", 59, "S"), appliedTo("x0", 59, "x0"), behindAll("x0", 59, "x0"), "(" + combTwice + " " + combTwice + ")", "(" + combThrice + " " + combThrice + ")", manyTwice(7, 1), manyTwice(14, 0), appliedTo(combTwice, 25, combTwice), "(((S S) S) ((S S) S))", appliedTo("((S S) S)", 20, "((S S) S)")}
		for range 20 {
			for _, text := range heavy {
				l := combIn(text)
				if !impl.GoodComb(l) {
					t.Errorf("%s is not good", short(text))
				}
				impl.AbstractComb(l, 0)
				impl.PutComb(l, 0, l)
				impl.StepComb(l)
				impl.NormalComb(l, 1000)
			}
			for _, text := range []string{bushy(150, 0), bushy(149, 3), lambdas(39, "0"), lambdas(39, "38"), lambdas(10, bushy(140, 0)), lambdas(33, bushy(90, 0)), lambdas(33, bushy(90, 32)), `\` + appliedTo("0", 38, "0"), lambdas(20, appliedTo("19", 19, "0"))} {
				impl.CombOfTerm(nodesIn(text))
			}
		}
	})
}
