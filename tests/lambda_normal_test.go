package tests

import (
	"fmt"
	"math"
	"strings"
	"testing"

	"loop.example/g00201/impl"
)

// numeral is Church's number.
func numeral(n int) string {
	return `\\` + strings.Repeat("(1 ", n) + "0" + strings.Repeat(")", n)
}

// Church's sum, product and power of two numbers.
const (
	sumTerm     = `\\\\((3 1) ((2 1) 0))`
	productTerm = `\\\(2 (1 0))`
	powerTerm   = `\\(0 1)`
)

func TestNormalByHand(t *testing.T) {
	ends(t, "0", "0", 0)
	ends(t, `\(0 \(1 0))`, `\(0 \(1 0))`, 0)
	ends(t, bushy(150, 0), bushy(150, 0), 0)
	ends(t, lambdas(39, "99"), lambdas(39, "99"), 0)
	ends(t, `(\0 5)`, "5", 1)
	ends(t, `((\\1 5) 6)`, "5", 2)
	ends(t, `(\(0 0) (\0 3))`, "(3 3)", 3)
	ends(t, identities(37, "7"), "7", 37)
	ends(t, `(((\\\((2 0) (1 0)) \\1) \\1) 5)`, "5", 5)
	ends(t, `\(0 (\0 (\0 0)))`, `\(0 0)`, 2)
}

// The redex with the least number goes first, so a second part that is dropped is never reduced.
func TestNormalTakesTheFirstRedex(t *testing.T) {
	ends(t, `(\5 `+selfApplied+")", "4", 1)
	ends(t, `(\5 `+growingTerm+")", "4", 1)
	ends(t, `((\\1 5) `+selfApplied+")", "5", 2)
	ends(t, `((\\0 `+selfApplied+`) 5)`, "5", 2)
	ends(t, `(\\0 `+selfApplied+")", `\0`, 1)
	ends(t, `(\(\3 0) `+selfApplied+")", "1", 2)
	ends(t, `((\0 \3) `+selfApplied+")", "2", 2)
	// From within to without these would be fewer, from the right others.
	ends(t, `(\((0 0) 0) (\0 3))`, "((3 3) 3)", 4)
	ends(t, `(\(0 (\0 7)) \8)`, "7", 2)
	// The inner redex comes to too great a number if it goes first.
	ends(t, `(\(\\1 99) 0)`, `\99`, 2)
	endsNot(t, `(0 (\\1 99))`, 1000)
}

func TestNormalOfNumerals(t *testing.T) {
	told := 0
	for a := range 7 {
		for b := range 7 {
			power := numeral(int(math.Pow(float64(a), float64(b))))
			if b == 0 {
				// It is a lambda less than the numeral of 1.
				power = `\0`
			}
			for _, c := range [][2]string{{sumTerm, numeral(a + b)}, {productTerm, numeral(a * b)}, {powerTerm, power}} {
				text := "((" + c[0] + " " + numeral(a) + ") " + numeral(b) + ")"
				want, wantSteps, wantOk := modelNormal(nodesIn(text), 1000)
				got, steps, ok := impl.NormalTerm(nodesIn(text), 1000)
				toldTerm(t, text, got, ok, want, wantOk)
				if steps != wantSteps || ok && spell(got) != c[1] {
					t.Errorf("%s: %s by %d steps; wanted %s by %d", text, spell(got), steps, c[1], wantSteps)
				}
				if ok {
					told++
				}
			}
		}
	}
	if told < 100 {
		t.Errorf("only %d are told", told)
	}
	ends(t, "(("+sumTerm+" "+numeral(2)+") "+numeral(3)+")", numeral(5), 6)
}

// doubling takes 2 to the power of n + 1 less 2 steps: its second part is done twice.
func doubling(n int) string {
	return strings.Repeat(`(\(0 0) `, n) + `\0` + strings.Repeat(")", n)
}

func TestNormalOfManySteps(t *testing.T) {
	for n := range 8 {
		ends(t, doubling(n), `\0`, 1<<(n+1)-2)
	}
	endsNot(t, doubling(9), 1000)
}

func TestNormalThatDoesNotEnd(t *testing.T) {
	for _, text := range []string{selfApplied, growingTerm, `\` + selfApplied, "(0 " + selfApplied + ")", `(\(0 5) ` + selfApplied + ")", `(\(0 0) \(1 (0 0)))`, `((\0 \(0 0)) \(0 0))`} {
		for _, fuel := range []int{-1, 0, 1, 2, 10, 999, 1000, 1001} {
			endsNot(t, text, fuel)
		}
	}
}

// A term on the way that is not good ends it, even where the next one would be good again.
func TestNormalOnTheWay(t *testing.T) {
	many := func(nodes int) string { return `(\(\5 (0 0)) ` + bushy(nodes, 1) + ")" }
	ends(t, many(72), "3", 2)
	endsNot(t, many(74), 1000)
	deep := func(around int) string { return `(\(\5 ` + lambdas(20, "20") + ") " + lambdas(around, "0") + ")" }
	ends(t, deep(18), "3", 2)
	endsNot(t, deep(19), 1000)
	great := func(n int) string { return fmt.Sprintf(`(\(\5 \1) %d)`, n) }
	ends(t, great(98), "3", 2)
	endsNot(t, great(99), 1000)
}

func TestNormalFuel(t *testing.T) {
	for _, text := range []string{"0", `\0`, `(\0 5)`, `((\\1 5) 6)`, selfApplied, bushy(150, 3)} {
		l := nodesIn(text)
		for _, fuel := range append(wrongInts(), -2, -1, 0, 1, 2, 3, 999, 1000, 1001, 1002) {
			want, wantSteps, wantOk := modelNormal(l, fuel)
			got, steps, ok := impl.NormalTerm(l, fuel)
			toldTerm(t, fmt.Sprintf("NormalTerm(%s, %d)", short(text), fuel), got, ok, want, wantOk)
			if steps != wantSteps {
				t.Errorf("NormalTerm(%s, %d): %d times, not %d", short(text), fuel, steps, wantSteps)
			}
		}
	}
}

func TestNormalAsModel(t *testing.T) {
	d := &dice{state: 1459}
	long, none := 0, 0
	for _, l := range append(drawnTerms(1471, 2500, 30), drawnTerms(1481, 200, 150)...) {
		fuel := d.below(40)
		want, wantSteps, wantOk := modelNormal(l, fuel)
		got, steps, ok := impl.NormalTerm(l, fuel)
		toldTerm(t, fmt.Sprintf("NormalTerm(%s, %d)", spell(l), fuel), got, ok, want, wantOk)
		if steps != wantSteps {
			t.Errorf("NormalTerm(%s, %d): %d times, not %d", spell(l), fuel, steps, wantSteps)
		}
		if !ok {
			none++
		} else if steps > 3 {
			long++
		}
	}
	if long < 300 || none < 100 {
		t.Errorf("%d took several steps, %d did not end", long, none)
	}
}

// There is one normal form: whatever is reduced first, it is the same, where all of them end.
func TestOneNormalForm(t *testing.T) {
	ways := 0
	for _, l := range append(drawnTerms(1483, 2000, 30), drawnTerms(1487, 200, 100)...) {
		want, steps, ok := impl.NormalTerm(l, 300)
		if !ok {
			continue
		}
		if redexes, _ := impl.RedexesIn(want); len(redexes) > 0 {
			t.Errorf("%s: %s has redexes", spell(l), spell(want))
		}
		again, none, ok := impl.NormalTerm(want, 0)
		toldTerm(t, "a normal form of "+spell(l), again, ok, want, true)
		if none != 0 {
			t.Errorf("%s: its normal form takes %d steps", spell(l), none)
		}
		var others [][]impl.Term
		if developed, ok := impl.DevelopTerm(l); ok {
			others = append(others, developed)
		}
		for _, k := range modelRedexes(l) {
			if one, ok := impl.ReduceAt(l, k); ok {
				others = append(others, one)
			}
		}
		for _, other := range others {
			got, otherSteps, ok := impl.NormalTerm(other, 600)
			if !ok {
				continue
			}
			ways++
			toldTerm(t, fmt.Sprintf("the normal form of %s, by %s", spell(l), spell(other)), got, ok, want, true)
			if steps == 0 && otherSteps != 0 {
				t.Errorf("%s has no redex, but %s has", spell(l), spell(other))
			}
		}
		// The first redex is the first step.
		if redexes := modelRedexes(l); len(redexes) > 0 {
			one, _ := impl.ReduceAt(l, redexes[0])
			got, left, ok := impl.NormalTerm(one, steps-1)
			toldTerm(t, "behind the first step of "+spell(l), got, ok, want, true)
			if left != steps-1 {
				t.Errorf("%s takes %d steps, then %d", spell(l), steps, left)
			}
		}
	}
	if ways < 3000 {
		t.Errorf("only %d ways were looked at", ways)
	}
}
