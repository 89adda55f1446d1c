package tests

import (
	"fmt"
	"math/big"
	"slices"
	"strings"
	"testing"

	"loop.example/g00201/impl"
)

// termsHold asks for a number's terms, and that they make it again.
func termsHold(t *testing.T, x string) {
	t.Helper()
	want := modelTerms(ratOf(t, x))
	if len(want) > impl.MaxTerms {
		termsOf(x).isZero(t)
		return
	}
	termsOf(x).is(t, strings.Join(want, " "))
	ofTerms(want).is(t, x)
}

// convergentsHold asks for the numbers of all first terms, whose neighbours' cross products differ by one, now above and
// now below.
func convergentsHold(t *testing.T, l []string) {
	t.Helper()
	all, ok := impl.ConvergentsOf(l)
	if !ok || len(all) != len(l) {
		t.Errorf("ConvergentsOf(%s): %s, %v", shortList(l), shortList(all), ok)
		return
	}
	for at, number := range all {
		if !impl.GoodNum(number) {
			t.Errorf("ConvergentsOf(%s): %q is no number", shortList(l), short(number))
		}
		ofTerms(l[:at+1]).is(t, number)
		if at == 0 {
			continue
		}
		a, b := ratOf(t, all[at-1]), ratOf(t, number)
		cross := new(big.Int).Mul(b.Num(), a.Denom())
		cross.Sub(cross, new(big.Int).Mul(a.Num(), b.Denom()))
		if want := int64(1 - 2*((at+1)%2)); cross.Cmp(big.NewInt(want)) != 0 {
			t.Errorf("ConvergentsOf(%s): the cross products of %q and %q differ by %s, not %d", shortList(l), short(all[at-1]), short(number), cross, want)
		}
	}
	told(t, fmt.Sprintf("the last one of ConvergentsOf(%s)", shortList(l)), all[len(all)-1], ok, modelOfTerms(t, l).RatString())
}

// noTerms asks for zero answers of both functions of terms.
func noTerms(t *testing.T, l []string) {
	t.Helper()
	ofTerms(l).isZero(t)
	convergents(l).isZero(t)
}

func TestTermsByHand(t *testing.T) {
	for _, c := range []struct{ x, want string }{
		{"415/93", "4 2 6 7"}, {"0", "0"}, {"7", "7"}, {"-7", "-7"}, {"1/2", "0 2"}, {"-1/2", "-1 2"}, {"3/2", "1 2"}, {"-3/2", "-2 2"}, {"2/3", "0 1 2"}, {"-2/3", "-1 3"}, {"-1/3", "-1 1 2"},
		{"355/113", "3 7 16"}, {"-355/113", "-4 1 6 16"}, {"1/1000000", "0 1000000"}, {"999999/1000000", "0 1 999999"}, {"-999999/1000000", "-1 1000000"}, {"-1/1000000", "-1 1 999999"},
		{nines(600), nines(600)}, {"-" + nines(600), "-" + nines(600)}, {"1/" + nines(600), "0 " + nines(600)}, {"-1/" + nines(600), "-1 1 " + nines(599) + "8"}, {one(599) + "/" + nines(600), "0 9 1 " + nines(599)},
	} {
		termsOf(c.x).is(t, c.want)
	}
}

func TestTermsOfSmallNumbers(t *testing.T) {
	for top := int64(-60); top <= 60; top++ {
		for bottom := int64(1); bottom <= 40; bottom++ {
			termsHold(t, big.NewRat(top, bottom).RatString())
		}
	}
}

func TestTermsOfDrawnNumbers(t *testing.T) {
	t.Parallel()
	for _, x := range nums() {
		termsHold(t, x)
	}
	d := &dice{state: 881}
	for range 500 {
		digits := 1 + d.below(150)
		termsHold(t, d.num(digits, digits))
		termsHold(t, d.num(1+d.below(300), 1+d.below(160)))
	}
}

// manyTerms are so many terms of 1, but the last one 2: a number with just so many terms.
func manyTerms(many int) []string {
	return append(slices.Repeat([]string{"1"}, many-1), "2")
}

func TestTermsUpToMaxTerms(t *testing.T) {
	for _, first := range []string{"1", "0", "-5", "1000000"} {
		for _, many := range []int{299, 300, 301, 302} {
			l := manyTerms(many)
			l[0] = first
			x := modelOfTerms(t, l).RatString()
			if many > impl.MaxTerms {
				termsOf(x).isZero(t)
				noTerms(t, l)
			} else {
				termsHold(t, x)
				termsOf(x).is(t, strings.Join(l, " "))
				convergentsHold(t, l)
			}
		}
	}
	// With a last one that is 1 there is one term more than the number has itself.
	l := append(slices.Repeat([]string{"2"}, 299), "1")
	x := modelOfTerms(t, l).RatString()
	ofTerms(l).is(t, x)
	termsOf(x).is(t, strings.Join(append(slices.Repeat([]string{"2"}, 298), "3"), " "))
	noTerms(t, append(l, "1"))
	noTerms(t, slices.Repeat([]string{"1"}, 301))
	noTerms(t, nil)
	noTerms(t, []string{})
}

func TestOfTermsByHand(t *testing.T) {
	for _, c := range []struct{ terms, want string }{
		{"4 2 6 7", "4 9/2 58/13 415/93"}, {"0", "0"}, {"5", "5"}, {"-5", "-5"}, {"1", "1"}, {"0 1", "0 1"}, {"0 2", "0 1/2"}, {"-1 1", "-1 0"}, {"-1 2", "-1 -1/2"}, {"-1 1 1", "-1 0 -1/2"}, {"-1 1 2", "-1 0 -1/3"}, {"-2 1", "-2 -1"}, {"-2 1 1", "-2 -1 -3/2"},
		{"3 7 15 1", "3 22/7 333/106 355/113"}, {"3 7 16", "3 22/7 355/113"}, {"1 1 1 1 1", "1 2 3/2 5/3 8/5"}, {"0 1 1", "0 1 1/2"}, {"1 1", "1 2"}, {"0 5 1", "0 1/5 1/6"},
		{nines(600), nines(600)}, {"-" + nines(600), "-" + nines(600)}, {"0 " + nines(600), "0 1/" + nines(600)}, {"-1 " + nines(600), "-1 -" + nines(599) + "8/" + nines(600)},
		// Tops that fall by one ahead of all that follows, as the first one is below 0.
		{"-" + nines(600) + " 1", "-" + nines(600) + " -" + nines(599) + "8"},
	} {
		convergents(words(c.terms)).is(t, c.want)
		all := words(c.want)
		ofTerms(words(c.terms)).is(t, all[len(all)-1])
		convergentsHold(t, words(c.terms))
	}
	for _, terms := range []string{
		"1 0", "0 0", "1 2 0", "1 0 2", "1 -1", "1 2 -3", "-1 -1", "1 -1 2", "1/2", "1/2 2", "1 1/2", "1 2 3/2 4", "1 -1/2", "1 2 x", "x", "x 1", "01", "1 01", "+1", "1 +1", "-0", "-0 1", "1 1/1", "2/1", "4/2 1", "1 2.", "1 #x1",
		one(600), "1 " + one(600), "1 2 " + nines(601), "-" + one(600), "-" + one(600) + " 1", "0 0 0",
	} {
		noTerms(t, words(terms))
	}
	noTerms(t, []string{""})
	noTerms(t, []string{"1", ""})
	noTerms(t, []string{"1 2"})
	noTerms(t, []string{"1", " 2"})
}

// Numbers that are just short enough, and those that are too long by one digit.
func TestOfTermsUpToMaxDigits(t *testing.T) {
	for _, c := range []struct {
		terms string
		fits  bool
	}{
		{nines(600) + " 1", false}, {nines(599) + "8 1", true}, {nines(599) + "8 1 1", false}, {"-" + nines(600) + " 1", true}, {"-" + nines(600) + " 1 1", false}, {"-" + nines(600) + " 2", false}, {"-5" + strings.Repeat("0", 599) + " 2", true}, {"-1 1 " + nines(599) + "8", true}, {"-1 1 " + nines(600), false},
		{"1 " + nines(600), false}, {"1 " + nines(599) + "8", true}, {"0 " + nines(600) + " 1", false}, {"0 " + nines(599) + "8 1", true}, {"0 1 " + nines(599) + "8", true}, {"0 1 " + nines(600), false},
		{nines(300) + " " + nines(300), true}, {one(300) + " " + one(299), true}, {one(300) + " " + one(300), false}, {"0 " + nines(300) + " " + nines(300), true}, {"0 " + one(300) + " " + one(300), false}, {"0 " + one(300) + " " + one(300) + " 5", false},
		{nines(600) + " " + nines(600), false}, {"-" + nines(600) + " " + nines(600) + " " + nines(600), false}, {"1 " + nines(600) + " " + nines(600), false},
	} {
		l := words(c.terms)
		x := modelOfTerms(t, l)
		if fits := max(len(new(big.Int).Abs(x.Num()).String()), len(x.Denom().String())) <= impl.MaxDigits; fits != c.fits {
			t.Errorf("%s: fits is %v", shortList(l), fits)
		}
		if c.fits {
			ofTerms(l).is(t, x.RatString())
			convergentsHold(t, l)
		} else {
			noTerms(t, l)
		}
	}
}

// Where the number of drawn terms is one it is told with all convergents, and otherwise neither is.
func TestOfTermsOfDrawnNumbers(t *testing.T) {
	t.Parallel()
	d := &dice{state: 883}
	fit, tooLong := 0, 0
	for n := range 400 {
		digits := 1 + d.below(4+n%80)
		l := []string{d.num(1+d.below(digits), 0)}
		for range d.below(60) {
			term := d.nat(1 + d.below(digits))
			if term == "0" {
				term = "1"
			}
			l = append(l, term)
		}
		x := modelOfTerms(t, l)
		text, ok := impl.OfTerms(l)
		toldIfNum(t, fmt.Sprintf("OfTerms(%s)", shortList(l)), text, ok, x)
		if ok {
			convergentsHold(t, l)
			fit++
		} else {
			noTerms(t, l)
			tooLong++
		}
		if last := l[len(l)-1]; ok && (last != "1" || len(l) == 1) {
			termsOf(text).is(t, strings.Join(l, " "))
		}
	}
	if fit < 100 || tooLong < 50 {
		t.Errorf("%d numbers and %d that are too long", fit, tooLong)
	}
}
