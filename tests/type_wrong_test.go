package tests

import (
	"fmt"
	"slices"
	"strings"
	"testing"
	"time"

	"loop.example/g00201/impl"
)

// wrongTypes are texts that are no types, one wrong way each.
func wrongTypes() []string {
	return []string{
		"", " ", "t", "T0", "0", "t00", "t01", "t1000", "t-1", "t+1", "t 1", "t1 ", " t1", "t1\n", "t1\x00", "tt1", "t1t2", "x1", "(", ")", "()", ">", "(>)", "(t0)", "(t0>)", "(>t0)", "(t0>t1", "t0>t1", "t0>t1)", "(t0>t1))", "((t0>t1)", "((t0>t1))", "(t0 t1)", "(t0>t1>t2)", "(t0->t1)", "(t0> t1)", "(t0 >t1)", "( t0>t1)", "(t0>t1 )", "(t0>t1)(t2>t3)", "(t0>t1000)", "(t01>t0)", "(t0>t1]", "[t0>t1]", "\x00", "\xff", "t\xff", "(t0>\x80)", "t٣", "(t0＞t1)",
		"t9223372036854775807", "t9223372036854775808", "t18446744073709551616", "t" + strings.Repeat("0", 100), wideType(201, "t0"), wideType(401, "t0"), arrowsTo(60, "t0", "t1"), arrowsFrom(60, "t0", "t1"), strings.Repeat("(", 800), strings.Repeat("(", 801), strings.Repeat("t", 900),
	}
}

// zeroOfType asks every function of a text for the zero answer.
func zeroOfType(t *testing.T, s string) {
	t.Helper()
	what := fmt.Sprintf("%q", short(s))
	if impl.GoodType(s) {
		t.Errorf("GoodType(%s) is true", what)
	}
	if vars, ok := impl.VarsOf(s); len(vars) > 0 || ok {
		t.Errorf("VarsOf(%s): %v, %v", what, vars, ok)
	}
	got, ok := impl.PlainType(s)
	refused(t, "PlainType "+what, got, ok)
	for _, b := range [][]impl.Bind{nil, {}, {{Var: 0, Type: "t1"}}, {{Var: 0, Type: s}}} {
		got, ok = impl.ApplyType(b, s)
		refused(t, "ApplyType to "+what, got, ok)
	}
	got, ok = impl.ApplyType([]impl.Bind{{Var: 7, Type: s}}, "t0")
	refused(t, "ApplyType with "+what, got, ok)
	got, ok = impl.ApplyType([]impl.Bind{{Var: 7, Type: "t1"}, {Var: 8, Type: s}}, "t8")
	refused(t, "ApplyType with "+what, got, ok)
	for _, other := range []string{"t0", "(t0>t1)", s} {
		binds, ok := impl.UnifyTypes(s, other)
		toldBinds(t, "UnifyTypes of "+what, binds, ok, nil, false)
		binds, ok = impl.UnifyTypes(other, s)
		toldBinds(t, "UnifyTypes with "+what, binds, ok, nil, false)
		is, ok := impl.InstanceOf(s, other)
		isBack, okBack := impl.InstanceOf(other, s)
		if is || ok || isBack || okBack {
			t.Errorf("InstanceOf of %s and %s: %v, %v and %v, %v", what, other, is, ok, isBack, okBack)
		}
	}
	for _, text := range []string{`\0`, `\(0 0)`, "0"} {
		hasNoType(t, nodesIn(text), s)
	}
}

// typeAsModel holds every function of a type against the models.
func typeAsModel(t *testing.T, s string, other string) {
	t.Helper()
	isGoodType(t, s, true)
	hasVars(t, s, modelVars(s)...)
	isPlain(t, s, modelPlain(s))
	binds := []impl.Bind{{Var: 0, Type: other}, {Var: 9, Type: "(t0>t9)"}}
	want, _ := modelApplyType(binds, s)
	makesType(t, binds, s, want)
	makesType(t, []impl.Bind{{Var: 0, Type: s}}, "t0", s)
	unifiesAsModel(t, s, other)
	unifiesAsModel(t, other, s)
	isInstance(t, s, other, modelInstance(s, other))
	isInstance(t, other, s, modelInstance(other, s))
	hasType(t, `\0`, s, modelInstance("(t0>t0)", s))
	hasType(t, `\\1`, s, modelInstance("(t0>(t1>t0))", s))
	hasType(t, `\(0 0)`, s, false)
}

func TestWrongTypes(t *testing.T) {
	for _, s := range wrongTypes() {
		isGoodType(t, s, false)
		zeroOfType(t, s)
	}
}

// Texts of any bytes are answered, and types alone with true.
func TestTypesOfAnyBytes(t *testing.T) {
	d := &dice{state: 2141}
	good := 0
	for range 20000 {
		text := []byte(d.typ(1+d.below(6), 12))
		for range d.below(3) {
			at := d.below(len(text))
			sign := "(>)t0123456789 "[d.below(15)]
			if d.below(5) == 0 {
				sign = byte(d.below(256))
			}
			switch d.below(3) {
			case 0:
				text[at] = sign
			case 1:
				text = slices.Insert(text, at, sign)
			default:
				text = slices.Delete(text, at, at+1)
				if len(text) == 0 {
					text = []byte{sign}
				}
			}
		}
		if s := string(text); modelGoodType(s) {
			good++
			typeAsModel(t, s, d.typ(1+d.below(5), 12))
		} else {
			zeroOfType(t, s)
		}
	}
	if good < 4000 || good > 16000 {
		t.Errorf("%d of 20000 texts are types", good)
	}
}

// Binds of which any fields are changed are good or not as the model says.
func TestBindsOfAnyFields(t *testing.T) {
	d := &dice{state: 2143}
	ints := append(wrongInts(), -1, 0, 0, 1, 1, 2, 3, 4, 5, 998, 999, 1000)
	texts := append(wrongTypes(), "t0", "t1", "(t0>t1)", "(t1>(t2>t0))", "t999", wideType(199, "t1"))
	good := 0
	for range 20000 {
		b := d.binds(6, 3)
		for range d.below(3) {
			switch at := d.below(len(b) + 1); {
			case at == len(b):
				b = append(b, impl.Bind{Var: ints[d.below(len(ints))], Type: "t1"})
			case d.below(2) == 0:
				b[at].Var = ints[d.below(len(ints))]
			default:
				b[at].Type = texts[d.below(len(texts))]
			}
		}
		s := d.typ(1+d.below(4), 6)
		want, ok := modelApplyType(b, s)
		makesType(t, b, s, want)
		if ok {
			good++
		}
	}
	if good < 4000 || good > 16000 {
		t.Errorf("%d of 20000 binds are good", good)
	}
}

// Terms of which any fields are changed have the zero answer where they are not good, or not without free variables.
func TestTypesOfAnyNodes(t *testing.T) {
	d := &dice{state: 2153}
	ints := append(wrongInts(), -3, -1, 0, 0, 1, 1, 2, 2, 3, 3, 4, 5, 98, 99, 100)
	told, none := 0, 0
	for _, l := range closed(drawnTerms(2161, 12000, 10)) {
		for range d.below(3) {
			n := &l[d.below(len(l))]
			to := ints[d.below(len(ints))]
			switch d.below(3) {
			case 0:
				n.Kind = to
			case 1:
				n.N = to
			default:
				n.Up = to
			}
		}
		if modelGoodTerm(l) && len(modelFree(l)) == 0 {
			told++
			infersAsModel(t, l)
			s, _, _ := modelInfer(l)
			hasType(t, spell(l), "(t0>(t1>t0))", s != "" && modelInstance(s, "(t0>(t1>t0))"))
			continue
		}
		none++
		got, ok := impl.InferTerm(l)
		refused(t, "InferTerm "+fmt.Sprint(l), got, ok)
		hasNoType(t, l, "(t0>t0)")
	}
	if told < 3000 || none < 3000 {
		t.Errorf("%d are terms without free variables, %d are not", told, none)
	}
}

// typeCalls are the functions of types that answer a text, with one text or two.
func typeCalls() map[string]func(s string) (string, bool) {
	return map[string]func(s string) (string, bool){
		"PlainType":         impl.PlainType,
		"ApplyType of none": func(s string) (string, bool) { return impl.ApplyType(nil, s) },
		"ApplyType": func(s string) (string, bool) {
			return impl.ApplyType([]impl.Bind{{Var: 0, Type: s}, {Var: 3, Type: "t4"}}, s)
		},
		"ApplyType by it": func(s string) (string, bool) { return impl.ApplyType([]impl.Bind{{Var: 0, Type: s}}, "t0") },
	}
}

// Texts that are given stay as they are, what is behind them is not read, and no answer shares memory with them or with
// another answer.
func TestTypesAreNotWritten(t *testing.T) {
	for _, s := range append(append(wrongTypes(), drawnTypes(2179, 400, 12)...), "t0", "t1", "t999", "(t0>t1)", wideType(199, "t0"), "t0>t1)") {
		plain := strings.Clone(s)
		text, memory, same := given(s)
		for what, call := range typeCalls() {
			want, wantOk := call(plain)
			got, ok := call(text)
			if got != want || ok != wantOk || inside(got, memory) {
				t.Errorf("%s of %q: %q, %v; wanted %q, %v in new memory", what, short(s), short(got), ok, short(want), wantOk)
			}
		}
		vars, wantOk := impl.VarsOf(plain)
		got, ok := impl.VarsOf(text)
		other, _ := impl.VarsOf(text)
		if !slices.Equal(got, vars) || ok != wantOk || impl.GoodType(text) != wantOk {
			t.Errorf("VarsOf(%q): %v, %v; wanted %v, %v", short(s), got, ok, vars, wantOk)
		}
		isEmptyBehind(t, got)
		fill(got, -1)
		if !slices.Equal(other, vars) {
			t.Errorf("VarsOf(%q): two answers share memory", short(s))
		}
		for _, beside := range []string{"t5", "(t5>t6)", "(t0>t0)", "((t0>t5)>t6)"} {
			want, wantOk := impl.UnifyTypes(plain, beside)
			binds, ok := impl.UnifyTypes(text, beside)
			again, _ := impl.UnifyTypes(text, beside)
			turned, _ := impl.UnifyTypes(beside, text)
			toldBinds(t, fmt.Sprintf("UnifyTypes(%q, %s)", short(s), beside), binds, ok, want, wantOk)
			for _, one := range append(slices.Clone(binds), turned...) {
				if inside(one.Type, memory) {
					t.Errorf("UnifyTypes of %q and %s shares memory with it", short(s), beside)
				}
			}
			isEmptyBehind(t, binds)
			fill(binds, impl.Bind{Var: -5, Type: "written"})
			if !slices.Equal(again, want) {
				t.Errorf("UnifyTypes of %q and %s: two answers share memory", short(s), beside)
			}
			impl.InstanceOf(text, beside)
			impl.InstanceOf(beside, text)
		}
		impl.HasType(nodesIn(`\0`), text)
		if !same() {
			t.Errorf("%q was written into", short(s))
		}
	}
}

// Binds and terms that are given are not written into, and what is behind their length is not read.
func TestBindsAreNotWritten(t *testing.T) {
	d := &dice{state: 2203}
	for range 3000 {
		plain := d.binds(6, 3)
		if d.below(4) == 0 && len(plain) > 0 {
			plain[d.below(len(plain))] = impl.Bind{Var: d.below(8) - 1, Type: []string{"t1", "t"}[d.below(2)]}
		}
		s := d.typ(1+d.below(4), 6)
		for _, behind := range []impl.Bind{{Var: 700, Type: "t1"}, {Var: 0, Type: "t1"}, {Var: -7, Type: "written"}} {
			b, same := roomy(plain, behind, behind)
			want, wantOk := impl.ApplyType(slices.Clone(plain), s)
			got, ok := impl.ApplyType(b, s)
			if got != want || ok != wantOk || !same() {
				t.Errorf("ApplyType(%v, %s) with %v behind: %s, %v; wanted %s, %v", plain, s, behind, got, ok, want, wantOk)
			}
		}
	}
	for _, plain := range append(closed(drawnTerms(2207, 1500, 15)), wrongTerms()...) {
		l, same := roomy(plain, impl.Term{Kind: impl.TermVar, N: 1}, impl.Term{Kind: impl.TermVar, Up: -1})
		want, wantOk := impl.InferTerm(slices.Clone(plain))
		got, ok := impl.InferTerm(l)
		is, alsoOk := impl.HasType(slices.Clone(plain), "(t0>t0)")
		isRoomy, roomyOk := impl.HasType(l, "(t0>t0)")
		if got != want || ok != wantOk || is != isRoomy || alsoOk != roomyOk || !same() {
			t.Errorf("InferTerm(%s) with something behind: %s, %v; wanted %s, %v", short(fmt.Sprint(plain)), got, ok, want, wantOk)
		}
	}
}

// The answers to one question are the same every time, whatever the order in which binds are gone through.
func TestTypesAreToldTheSame(t *testing.T) {
	var first, second []string
	for n := range 30 {
		first, second = append(first, fmt.Sprint("t", n)), append(second, fmt.Sprintf("(t%d>t%d)", n/2+40, n+50))
	}
	a, b := spreadTypes(first), spreadTypes(second)
	binds, ok := impl.UnifyTypes(a, b)
	grown := `\(\1 ` + grownTerm(3991) + ")"
	for range 200 {
		again, alsoOk := impl.UnifyTypes(a, b)
		toldBinds(t, "UnifyTypes again", again, alsoOk, binds, ok)
	}
	for range 10 {
		infers(t, grown, "(t0>t0)")
		infers(t, spell(nodesIn(sumTerm)), "((t0>(t1>t2))>((t0>(t3>t1))>(t0>(t3>t2))))")
	}
}

// Texts of a megabyte, lists of a million binds and nodes, and what takes longest are answered at once.
func TestTypesInGoodTime(t *testing.T) {
	inTime(t, 60*time.Second, func() {
		for _, part := range []string{"(", ")", ">", "t", "t0", "9", "(t0>", "((", ">t0)", "(t", "\x00", "\xff", "t9>", "0"} {
			for _, end := range []string{"", "t0", ">t0)", ")"} {
				zeroOfType(t, strings.Repeat(part, 1<<20)+end)
			}
		}
		many := make([]impl.Bind, 1<<20)
		for at := range many {
			many[at] = impl.Bind{Var: at, Type: "t0"}
		}
		for _, s := range []string{"t0", "", wideType(199, "t0")} {
			got, ok := impl.ApplyType(many, s)
			refused(t, "ApplyType", got, ok)
		}
		for _, n := range []impl.Term{{Kind: impl.TermVar, Up: -1}, {Kind: impl.TermLam, Up: -1}, {Kind: impl.TermApp, Up: -1}, {}} {
			l := slices.Repeat([]impl.Term{n}, 1<<20)
			got, ok := impl.InferTerm(l)
			refused(t, "InferTerm", got, ok)
			hasNoType(t, l, "t0")
		}
		heavyTypes(t)
		heavyTerms(t)
	})
}

// heavyTypes are types in which much is bound, again and again.
func heavyTypes(t *testing.T) {
	t.Helper()
	var first, second []string
	for n := range 50 {
		first, second = append(first, fmt.Sprint("t", n)), append(second, fmt.Sprintf("(t%d>t%[1]d)", n+1))
	}
	all := []string{wideType(199, "t0"), wideType(199, "t1"), spreadTypes(first), spreadTypes(second), arrowsTo(59, "t0", "t1"), arrowsFrom(59, "t0", "t1"), arrowsTo(30, "t0", wideType(131, "t3")), "(" + spreadTypes(first) + ">" + spreadTypes(first) + ")", "(" + spreadTypes(first[1:]) + ">" + spreadTypes(first[:49]) + ")"}
	for range 20 {
		for _, a := range all {
			for _, b := range all {
				impl.UnifyTypes(a, b)
				impl.InstanceOf(a, b)
				impl.ApplyType([]impl.Bind{{Var: 0, Type: a}, {Var: 1, Type: b}}, a)
			}
		}
	}
}

// heavyTerms are terms whose types grow, and with many variables.
func heavyTerms(t *testing.T) {
	t.Helper()
	for _, text := range []string{
		`\` + bushy(149, 0), lambdas(39, "0"), lambdas(30, bushy(119, 0)), lambdas(30, bushy(119, 29)), strings.Repeat(`(\\((0 1) 1) `, 18) + `\0` + strings.Repeat(")", 18), `\` + strings.Repeat(`(\`, 17) + "0" + strings.Repeat(` \((0 1) 1))`, 17), grownTerm(3997), grownTerm(4001), `\(\1 ` + grownTerm(3997) + ")", identities(37, `\0`), lambdas(20, appliedTo("19", 18, "0")), lambdas(20, behindAll("19", 18, "0")),
		strings.Repeat("("+numeral(2)+" ", 9) + numeral(2) + strings.Repeat(")", 9), strings.Repeat("(", 9) + numeral(2) + strings.Repeat(" "+numeral(2)+")", 9), lambdas(10, spread(strings.Fields(strings.Repeat("0 1 2 3 4 5 6 7 8 9 ", 7)))), lambdas(32, spread(strings.Fields(strings.Repeat("0 5 9 14 22 28 30 31 ", 6)))),
	} {
		l := nodesIn(text)
		if free, ok := impl.FreeIn(l); !ok || len(free) > 0 {
			t.Errorf("%s is no good term, or has the free variables %v", short(text), free)
		}
		for range 20 {
			impl.InferTerm(l)
			impl.HasType(l, "(t0>t0)")
		}
	}
}
