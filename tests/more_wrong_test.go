package tests

import (
	"fmt"
	"math"
	"slices"
	"strings"
	"testing"
	"time"

	"loop.example/g00201/impl"
)

// natCalls are the calls of chapter 8 with one natural number left open, all others being good.
func natCalls() []func(string) moreCall {
	calls := []func(string) moreCall{
		func(a string) moreCall { return bezout(a, a) },
		func(a string) moreCall { return powMod(a, a, a) },
		func(a string) moreCall { return chinese([]string{a}, []string{a}) },
		sqrt,
		factors,
	}
	for _, good := range []string{"0", "1", "2", "12", nines(100), nines(600)} {
		calls = append(calls,
			func(a string) moreCall { return bezout(a, good) },
			func(a string) moreCall { return bezout(good, a) },
			func(a string) moreCall { return powMod(a, good, good) },
			func(a string) moreCall { return powMod(good, a, "7") },
			func(a string) moreCall { return powMod(good, "7", a) },
			func(a string) moreCall { return chinese([]string{a}, []string{good}) },
			func(a string) moreCall { return chinese([]string{good}, []string{a}) },
			func(a string) moreCall { return chinese([]string{"1", "2", a}, []string{"2", "5", "7"}) },
			func(a string) moreCall { return chinese([]string{a, "2", "1"}, []string{"2", "5", "7"}) },
			func(a string) moreCall { return chinese([]string{"1", "2", "3"}, []string{"3", a, "5"}) },
			func(a string) moreCall { return best("1/3", a) },
			func(a string) moreCall { return best(good, a) },
		)
		for _, least := range []int{0, 1, 50, 100, 101} {
			calls = append(calls,
				func(a string) moreCall { return halves(a, good, least) },
				func(a string) moreCall { return halves(good, a, least) },
				func(a string) moreCall { return halves(a, a, least) },
			)
		}
	}
	return calls
}

// numCalls are those with one number left open.
func numCalls() []func(string) moreCall {
	return []func(string) moreCall{
		termsOf,
		func(x string) moreCall { return ofTerms([]string{x}) },
		func(x string) moreCall { return ofTerms([]string{x, "1"}) },
		func(x string) moreCall { return ofTerms([]string{"1", x}) },
		func(x string) moreCall { return ofTerms([]string{"1", x, "2"}) },
		func(x string) moreCall { return ofTerms([]string{"1", nines(600), nines(600), x}) },
		func(x string) moreCall { return convergents([]string{x}) },
		func(x string) moreCall { return convergents([]string{x, "1"}) },
		func(x string) moreCall { return convergents([]string{"1", x}) },
		func(x string) moreCall { return convergents([]string{"1", x, "2"}) },
		func(x string) moreCall { return best(x, "1") },
		func(x string) moreCall { return best(x, nines(60)) },
	}
}

func TestMoreOfWrongNats(t *testing.T) {
	for _, call := range natCalls() {
		for _, wrong := range wrongNats() {
			call(wrong).isZero(t)
		}
	}
}

func TestMoreOfWrongNums(t *testing.T) {
	for _, call := range numCalls() {
		for _, wrong := range wrongNums() {
			call(wrong).isZero(t)
		}
	}
}

// Whatever is told of texts of any bytes is told of a number.
func TestMoreOfAnyTexts(t *testing.T) {
	d := &dice{state: 929}
	good := 0
	for range 30000 {
		text := make([]byte, d.below(6))
		for at := range text {
			text[at] = "0123456789-/+ x\x00\xff\n"[d.below(18)]
			if d.below(20) == 0 {
				text[at] = byte(d.below(256))
			}
		}
		s := string(text)
		for _, call := range []moreCall{sqrt(s), bezout(s, "12"), bezout("12", s), powMod("12", "7", s), powMod(s, s, "12"), chinese([]string{s}, []string{"12"}), halves(s, "123", 1), best("1/7", s), factors(s)} {
			if !call.ok || !impl.GoodNat(s) {
				call.isZero(t)
			}
			if call.ok {
				good++
			}
		}
		for _, call := range []moreCall{termsOf(s), ofTerms([]string{s}), convergents([]string{s, "5"}), convergents([]string{"5", s}), best(s, "12")} {
			if !call.ok || !impl.GoodNum(s) {
				call.isZero(t)
			}
			if call.ok {
				good++
			}
		}
		if impl.GoodNat(s) && !(sqrt(s).ok && bezout(s, "12").ok && powMod(s, s, "12").ok && halves(s, "123", 1).ok) {
			t.Errorf("%q is a natural number, and one says no", s)
		}
		if impl.GoodNum(s) && !(termsOf(s).ok && best(s, "12").ok) {
			t.Errorf("%q is a number, and one says no", s)
		}
	}
	if good < 10000 {
		t.Errorf("only %d answers", good)
	}
}

// Lists of any texts are answered, and only those as said with true.
func TestMoreOfAnyLists(t *testing.T) {
	d := &dice{state: 937}
	texts := append(wrongNats()[:40], "0", "0", "1", "1", "2", "3", "5", "7", "-1", "-7", "1/2", "12", "13", nines(600), one(599))
	list := func() []string {
		var l []string
		for range d.below(5) {
			l = append(l, texts[d.below(len(texts))])
		}
		return l
	}
	for range 20000 {
		rests, moduli := list(), list()
		call := chinese(rests, moduli)
		if len(rests) != len(moduli) || len(rests) == 0 || slices.ContainsFunc(slices.Concat(rests, moduli), func(s string) bool { return !impl.GoodNat(s) }) || slices.Contains(moduli, "0") {
			call.isZero(t)
		} else if call.ok {
			chineseHolds(t, rests, moduli)
		} else {
			call.isZero(t)
		}
		l := list()
		first := len(l) > 0 && impl.GoodNum(l[0]) && !strings.Contains(l[0], "/")
		if first && !slices.ContainsFunc(l[1:], func(s string) bool { return !impl.GoodNat(s) || s == "0" }) {
			told, ok := impl.OfTerms(l)
			toldIfNum(t, fmt.Sprintf("OfTerms(%s)", shortList(l)), told, ok, modelOfTerms(t, l))
		} else {
			noTerms(t, l)
		}
	}
}

// Lists that are given are not written into, what is behind them is not read, and what is told shares no memory with
// them or with another answer.
func TestMoreListsAreNotWritten(t *testing.T) {
	behind := []string{"x", "", "0", "3"}
	for _, c := range []struct{ rests, moduli string }{{"2 3 2", "3 5 7"}, {"1", "2"}, {"1 1", "2 4"}, {"1 x", "2 3"}, {"1 2", "3 0"}, {"", ""}, {nines(600), "7"}} {
		rests, restsSame := roomy(words(c.rests), behind...)
		moduli, moduliSame := roomy(words(c.moduli), behind...)
		want := chinese(words(c.rests), words(c.moduli))
		if got := chinese(rests, moduli); got != want || !restsSame() || !moduliSame() {
			t.Errorf("%s: %q, %v; wanted %q, %v", want.what, got.told, got.ok, want.told, want.ok)
		}
		// One list may stand for both.
		if got, want := chinese(moduli, moduli), chinese(words(c.moduli), words(c.moduli)); got != want || !moduliSame() {
			t.Errorf("%s: %q, %v; wanted %q, %v", want.what, got.told, got.ok, want.told, want.ok)
		}
	}
	for _, terms := range []string{"4 2 6 7", "1", "-1 1", "0", "1 0", "x", "1 x", "", nines(600), nines(600) + " 1"} {
		l, same := roomy(words(terms), behind...)
		if got, want := ofTerms(l), ofTerms(words(terms)); got != want || !same() {
			t.Errorf("%s: %q, %v; wanted %q, %v", want.what, got.told, got.ok, want.told, want.ok)
		}
		want, wantOk := impl.ConvergentsOf(words(terms))
		ownMemory(t, "ConvergentsOf", want, wantOk, func() ([]string, bool) { return impl.ConvergentsOf(l) })
		if !same() {
			t.Errorf("%q was written into", terms)
		}
	}
	for _, x := range []string{"0", "415/93", "-7", "2/4"} {
		want, wantOk := impl.TermsOf(x)
		ownMemory(t, "TermsOf", want, wantOk, func() ([]string, bool) { return impl.TermsOf(x) })
	}
	for _, a := range []string{"2", "720720", "1000000000000", "1", "x"} {
		want, wantOk := impl.FactorNat(a)
		ownMemory(t, "FactorNat", want, wantOk, func() ([]string, bool) { return impl.FactorNat(a) })
	}
}

// ownMemory writes over an answer, and asks for another one that stays as it is.
func ownMemory(t *testing.T, what string, want []string, wantOk bool, ask func() ([]string, bool)) {
	t.Helper()
	want = slices.Clone(want)
	got, ok := ask()
	other, _ := ask()
	if !slices.Equal(got, want) || ok != wantOk {
		t.Errorf("%s: %q, %v; wanted %q, %v", what, got, ok, want, wantOk)
	}
	isEmptyBehind(t, got)
	fill(got, "written")
	again, okAgain := ask()
	if !slices.Equal(other, want) || !slices.Equal(again, want) || okAgain != wantOk {
		t.Errorf("%s: answers share memory: %q and %q, not %q", what, other, again, want)
	}
}

// The longest arguments, texts of a megabyte and lists of a million texts are answered at once.
func TestMoreInGoodTime(t *testing.T) {
	digits, strokes := strings.Repeat("1", 1<<20), strings.Repeat("/", 1<<20)
	inTime(t, 40*time.Second, func() {
		for _, long := range []string{digits, strokes, "-" + digits, "1/" + digits, digits + "/" + digits, strings.Repeat("0", 1<<20), strings.Repeat("\x00", 1<<20)} {
			for _, call := range append(natCalls(), numCalls()...) {
				call(long).isZero(t)
			}
		}
		for _, text := range []string{"1", "0", "2", "x", "", nines(600)} {
			many := slices.Repeat([]string{text}, 1<<20)
			chinese(many, many).isZero(t)
			chinese([]string{"1"}, many).isZero(t)
			chinese(many, []string{"1"}).isZero(t)
			noTerms(t, many)
		}
		d := &dice{state: 941}
		for range 20 {
			bezout(d.nat(600), d.nat(600))
			powMod(d.nat(600), nines(60), d.nat(100))
			sqrt(d.nat(600))
			termsOf(d.num(600, 600))
			chinese([]string{d.nat(600), d.nat(600)}, []string{nines(300), one(300)})
			noTerms(t, slices.Repeat([]string{nines(600)}, impl.MaxTerms))
			factors("999999999989")
			factors("999966000289")
		}
		for _, least := range []int{math.MinInt, 0, 101, math.MaxInt} {
			halves(digits, digits, least).isZero(t)
		}
	})
}
