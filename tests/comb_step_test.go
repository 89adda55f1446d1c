package tests

import (
	"fmt"
	"testing"

	"loop.example/g00201/impl"
)

// combTwice is what applies a combinator to itself; to itself it has no normal form and grows, but so slowly that it is
// good for more than 1000 steps. combThrice to itself is soon too great.
const (
	combTwice  = "((S I) I)"
	combThrice = "((S ((S I) I)) I)"
)

// stepCases are combinators and the next ones; nothing where there is none.
var stepCases = [][2]string{
	// The three rules.
	{"(I x0)", "x0"}, {"((K x0) x1)", "x0"}, {"(((S x0) x1) x2)", "((x0 x2) (x1 x2))"}, {"(I (x0 x1))", "(x0 x1)"}, {"((K (x0 x1)) (x2 x3))", "(x0 x1)"}, {"(((S (x0 x1)) (x2 x3)) (x4 x5))", "(((x0 x1) (x4 x5)) ((x2 x3) (x4 x5)))"}, {"(I I)", "I"}, {"(I S)", "S"}, {"((K K) K)", "K"}, {"((K S) I)", "S"}, {"(((S S) S) S)", "((S S) (S S))"}, {"(((S K) K) x5)", "((K x5) (K x5))"},
	// Too few behind it.
	{"I", ""}, {"K", ""}, {"S", ""}, {"x0", ""}, {"(K x0)", ""}, {"(S x0)", ""}, {"((S x0) x1)", ""}, {"(x0 x1)", ""}, {"(x0 I)", ""}, {"(x0 (K I))", ""}, {"((x0 K) I)", ""}, {"((x0 I) x1)", ""}, {"(((x0 S) x1) x2)", ""}, {"((S I) I)", ""}, {"(S ((S K) (K I)))", ""}, {"(K (K (K K)))", ""}, {"((S (K I)) ((S S) S))", ""},
	// More than it needs.
	{"((I x0) x1)", "(x0 x1)"}, {"(((I x0) x1) x2)", "((x0 x1) x2)"}, {"(((K x0) x1) x2)", "(x0 x2)"}, {"((((K x0) x1) x2) x3)", "((x0 x2) x3)"}, {"((((S x0) x1) x2) x3)", "(((x0 x2) (x1 x2)) x3)"}, {"(((((S x0) x1) x2) x3) x4)", "((((x0 x2) (x1 x2)) x3) x4)"}, {"((I I) x0)", "(I x0)"}, {"((I K) x0)", "(K x0)"}, {"(((I S) x0) x1)", "((S x0) x1)"},
	// Within each other: from without to within.
	{"(I (I x0))", "(I x0)"}, {"((K (I x0)) (I x1))", "(I x0)"}, {"(((S (I x0)) (I x1)) (I x2))", "(((I x0) (I x2)) ((I x1) (I x2)))"}, {"(((K (I x0)) x1) (I x2))", "((I x0) (I x2))"}, {"(((S ((K x0) x1)) x2) x3)", "((((K x0) x1) x3) (x2 x3))"},
	// A head that is a redex itself goes first: all around it is none yet.
	{"((I (K x0)) (I x1))", "((K x0) (I x1))"}, {"(((K I) x0) (I x1))", "(I (I x1))"}, {"((((K S) x0) (I x1)) x2)", "((S (I x1)) x2)"},
	// Beside each other: the left one.
	{"((x0 (I x1)) (I x2))", "((x0 x1) (I x2))"}, {"((I x0) (I x1))", "(x0 (I x1))"}, {"(x0 ((I x1) (I x2)))", "(x0 (x1 (I x2)))"}, {"((S (I x0)) (I x1))", "((S x0) (I x1))"}, {"(K ((K x0) x1))", "(K x0)"}, {"((x0 x1) (((S x2) x3) x4))", "((x0 x1) ((x2 x4) (x3 x4)))"}, {"((x0 (x1 (I x2))) ((K x3) x4))", "((x0 (x1 x2)) ((K x3) x4))"}, {"((x0 ((K x3) x4)) (I x1))", "((x0 x3) (I x1))"},
	// Too many nodes, too deep; what is dropped does not count.
	{"(((S x0) x1) " + wideComb(97, "K") + ")", "((x0 " + wideComb(97, "K") + ") (x1 " + wideComb(97, "K") + "))"}, {"(((S (x0 x2)) x1) " + wideComb(97, "K") + ")", ""}, {"(((S x0) (x1 x2)) " + wideComb(97, "K") + ")", ""}, {"(((S x0) x1) " + wideComb(99, "K") + ")", ""}, {"((K x0) " + wideComb(195, "K") + ")", "x0"},
	{behindAll("x0", 28, "(((S x0) x1) "+behindAll("K", 29, "K")+")"), behindAll("x0", 28, "((x0 "+behindAll("K", 29, "K")+") (x1 "+behindAll("K", 29, "K")+"))")}, {behindAll("x0", 29, "(((S x0) x1) "+behindAll("K", 29, "K")+")"), ""}, {behindAll("x0", 28, "(((S x0) x1) "+behindAll("K", 30, "K")+")"), ""},
	{behindAll("x0", 58, "(I I)"), behindAll("x0", 58, "I")}, {appliedTo("(I I)", 58, "x0"), appliedTo("I", 58, "x0")}, {wideComb(199, "x0"), ""}, {wideComb(201, "I"), ""}, {behindAll("I", 60, "I"), ""},
	// Only another redex would be good.
	{"((((S x0) x1) " + wideComb(97, "K") + ") (I x0))", ""},
}

func TestStepEdges(t *testing.T) {
	for _, c := range stepCases {
		stepsTo(t, c[0], c[1])
	}
}

func TestStepAsModel(t *testing.T) {
	all := append(drawnCombs(1697, 6000, 12), drawnCombs(1699, 1500, 100)...)
	stepped, none, grown := 0, 0, 0
	for _, l := range all {
		want, wantOk := modelStep(l)
		got, ok := impl.StepComb(l)
		toldComb(t, "StepComb "+spellComb(l), got, ok, want, wantOk)
		if _, more := combRowIn(l).step(); ok {
			stepped++
		} else if more {
			grown++
		} else {
			none++
		}
	}
	if stepped < 2000 || none < 1000 || grown < 20 {
		t.Errorf("%d have a step, %d none, of %d it is not good", stepped, none, grown)
	}
}

// Every combinator of up to 5 leaves steps as the model says.
func TestStepOfAllSmallCombs(t *testing.T) {
	byLeaves := map[int][]string{1: {"S", "K", "I", "x0"}}
	for leaves := 2; leaves <= 5; leaves++ {
		for first := 1; first < leaves; first++ {
			for _, a := range byLeaves[first] {
				for _, b := range byLeaves[leaves-first] {
					byLeaves[leaves] = append(byLeaves[leaves], "("+a+" "+b+")")
				}
			}
		}
		for _, text := range byLeaves[leaves] {
			l := combIn(text)
			want, wantOk := modelStep(l)
			got, ok := impl.StepComb(l)
			toldComb(t, "StepComb "+text, got, ok, want, wantOk)
		}
	}
	if len(byLeaves[5]) != 14*1024 {
		t.Errorf("there are %d of 5 leaves", len(byLeaves[5]))
	}
}

func TestNormalCombByHand(t *testing.T) {
	for _, text := range []string{"x0", "S", "K", "I", "(K I)", combTwice, combThrice, "((x0 I) (K (S I)))", wideComb(199, "x0"), appliedTo("x0", 59, "I"), behindAll("K", 59, "I")} {
		combEnds(t, text, text, 0)
	}
	combEnds(t, "(I x0)", "x0", 1)
	combEnds(t, "((K x0) x1)", "x0", 1)
	combEnds(t, "(((S x0) x1) x2)", "((x0 x2) (x1 x2))", 1)
	combEnds(t, "(((S K) K) x5)", "x5", 2)
	combEnds(t, "(((S K) S) (x1 x2))", "(x1 x2)", 2)
	combEnds(t, "(((S I) I) x0)", "(x0 x0)", 3)
	combEnds(t, behindAll("I", 59, "x0"), "x0", 59)
	combEnds(t, appliedTo("I", 59, "I"), "I", 59)
	combEnds(t, "((((S (K S)) K) x0) x1)", "((S (K x0)) x1)", 2)
	combEnds(t, "(((((S (K S)) K) x0) x1) x2)", "(x0 (x1 x2))", 4)
	combEnds(t, "((((S ((S (K ((S (K S)) K))) S)) (K K)) x0) x1)", "((S x0) (K x1))", 8)
}

// The redex with the least number goes first, so what is dropped is never looked at.
func TestNormalCombTakesTheFirstRedex(t *testing.T) {
	endless := "(" + combTwice + " " + combTwice + ")"
	great := "(" + combThrice + " " + combThrice + ")"
	combEnds(t, "((K x0) "+endless+")", "x0", 1)
	combEnds(t, "((K x0) "+great+")", "x0", 1)
	combEnds(t, "(((K I) "+endless+") x0)", "x0", 2)
	combEnds(t, "(((S (K x0)) x1) x2)", "(x0 (x1 x2))", 2)
	combEnds(t, "(((S K) "+great+") x0)", "x0", 2)
	combEndsNot(t, "((x0 "+endless+") (I x1))", 1000)
	combEndsNot(t, "((K "+endless+") x0)", 1000)
	// The argument is done twice, once in each place.
	combEnds(t, "(((S x0) x1) (I x2))", "((x0 x2) (x1 x2))", 3)
}

// manyTwice applies what it is given to itself, the outcome again, and so on: of I that takes 2 to the power of n + 2,
// less 4, steps, and 2 to the power of n more for each I that is ahead.
func manyTwice(n int, ahead int) string {
	return behindAll(combTwice, n, behindAll("I", ahead, "I"))
}

func TestNormalCombOfManySteps(t *testing.T) {
	for n := range 8 {
		combEnds(t, manyTwice(n, 0), "I", 1<<(n+2)-4)
	}
	combEnds(t, manyTwice(7, 1), "I", 636)
	thousand := "((((x0 " + manyTwice(2, 0) + ") " + manyTwice(3, 1) + ") " + manyTwice(6, 1) + ") " + manyTwice(7, 1) + ")"
	combEnds(t, thousand, "((((x0 I) I) I) I)", 1000)
	for _, fuel := range []int{-1, 0, 1, 1000, 1001} {
		combEndsNot(t, "("+thousand+" (I x0))", fuel)
	}
}

func TestNormalCombThatDoesNotEnd(t *testing.T) {
	slow := "(" + combTwice + " " + combTwice + ")"
	// It is no limit but that of the fuel that ends it.
	l := combIn(slow)
	for range 1000 {
		next, ok := impl.StepComb(l)
		if !ok {
			t.Fatal("it has no step")
		}
		l = next
	}
	fast := "(" + combThrice + " " + combThrice + ")"
	grown := 0
	for l, ok := combIn(fast), true; ok; grown++ {
		l, ok = impl.StepComb(l)
	}
	if grown > 300 {
		t.Errorf("it is not good after %d steps", grown)
	}
	for _, text := range []string{slow, fast, "(x0 " + slow + ")", "((x0 " + fast + ") x1)", "(K " + slow + ")", "(I " + fast + ")", "(" + slow + " x0)"} {
		for _, fuel := range append(wrongInts(), -1, 0, 1, 2, 10, 999, 1000, 1001) {
			combEndsNot(t, text, fuel)
		}
	}
}

// One on the way that is not good ends it, even where the next one would be good again.
func TestNormalCombOnTheWay(t *testing.T) {
	dropped := func(b string, c string) string { return "(((S (K (K x0))) " + b + ") " + c + ")" }
	combEnds(t, dropped("x1", wideComb(95, "x2")), "x0", 3)
	combEndsNot(t, dropped("(x1 x1)", wideComb(95, "x2")), 1000)
	combEndsNot(t, dropped("x1", wideComb(97, "x2")), 1000)
	deep := dropped("x1", behindAll("x3", 29, "x2"))
	combEnds(t, behindAll("x5", 28, deep), behindAll("x5", 28, "x0"), 3)
	combEndsNot(t, behindAll("x5", 29, deep), 1000)
}

func TestNormalCombFuel(t *testing.T) {
	for _, text := range []string{"x0", "I", "(I x5)", "((K x5) x6)", "(((S K) K) x5)", combTwice, wideComb(199, "x3"), "(I (I (I x0)))"} {
		l := combIn(text)
		for _, fuel := range append(wrongInts(), -2, -1, 0, 1, 2, 3, 999, 1000, 1001, 1002) {
			want, wantSteps, wantOk := modelNormalComb(l, fuel)
			got, steps, ok := impl.NormalComb(l, fuel)
			toldComb(t, fmt.Sprintf("NormalComb(%s, %d)", short(text), fuel), got, ok, want, wantOk)
			if steps != wantSteps {
				t.Errorf("NormalComb(%s, %d): %d times, not %d", short(text), fuel, steps, wantSteps)
			}
		}
	}
}

func TestNormalCombAsModel(t *testing.T) {
	d := &dice{state: 1709}
	long, none := 0, 0
	for _, l := range append(drawnCombs(1721, 4000, 15), drawnCombs(1723, 600, 90)...) {
		fuel := d.below(60)
		want, wantSteps, wantOk := modelNormalComb(l, fuel)
		got, steps, ok := impl.NormalComb(l, fuel)
		toldComb(t, fmt.Sprintf("NormalComb(%s, %d)", spellComb(l), fuel), got, ok, want, wantOk)
		if steps != wantSteps {
			t.Errorf("NormalComb(%s, %d): %d times, not %d", spellComb(l), fuel, steps, wantSteps)
		}
		if !ok {
			none++
		} else if steps > 3 {
			long++
		}
	}
	if long < 500 || none < 100 {
		t.Errorf("%d took several steps, %d did not end", long, none)
	}
}

// What is in its normal form has no step, and is so with no fuel; each step behind the first is one less.
func TestNormalFormsHaveNoStep(t *testing.T) {
	ended := 0
	for _, l := range append(drawnCombs(1733, 4000, 15), drawnCombs(1741, 300, 60)...) {
		normal, steps, ok := impl.NormalComb(l, 1000)
		if !ok {
			continue
		}
		ended++
		next, ok := impl.StepComb(normal)
		isComb(t, "a step of the normal form "+spellComb(normal), next, ok, "")
		again, none, ok := impl.NormalComb(normal, 0)
		toldComb(t, "a normal form of "+spellComb(l), again, ok, normal, true)
		if none != 0 {
			t.Errorf("%s: its normal form takes %d steps", spellComb(l), none)
		}
		next, ok = impl.StepComb(l)
		if ok != (steps > 0) {
			t.Errorf("%s takes %d steps, but StepComb tells %v", spellComb(l), steps, ok)
		}
		if ok {
			got, left, ok := impl.NormalComb(next, steps-1)
			toldComb(t, "behind the first step of "+spellComb(l), got, ok, normal, true)
			if left != steps-1 {
				t.Errorf("%s takes %d steps, then %d", spellComb(l), steps, left)
			}
		}
	}
	if ended < 3000 {
		t.Errorf("only %d ended", ended)
	}
}
