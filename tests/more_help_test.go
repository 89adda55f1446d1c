package tests

import (
	"fmt"
	"math/big"
	"strings"
	"testing"

	"loop.example/g00201/impl"
)

// moreCall is an answer of a function of chapter 8: all of it but the bool told as one text.
type moreCall struct {
	what string
	told string
	ok   bool
}

// called tells an answer; an answer beside false is the empty text just where it is the zero answer.
func called(what string, ok bool, answers ...any) moreCall {
	var told []string
	empty := !ok
	for _, answer := range answers {
		switch a := answer.(type) {
		case string:
			told, empty = append(told, a), empty && a == ""
		case int:
			told, empty = append(told, fmt.Sprint(a)), empty && a == 0
		case []string:
			told, empty = append(told, a...), empty && len(a) == 0
		}
	}
	if empty {
		return moreCall{what: what}
	}
	return moreCall{what, strings.Join(told, " "), ok}
}

// is asks for an answer beside true.
func (c moreCall) is(t *testing.T, want string) {
	t.Helper()
	told(t, c.what, c.told, c.ok, want)
}

// isZero asks for the zero answer.
func (c moreCall) isZero(t *testing.T) {
	t.Helper()
	refused(t, c.what, c.told, c.ok)
}

func halves(a string, b string, least int) moreCall {
	product, direct, ok := impl.MulByHalves(a, b, least)
	return called(fmt.Sprintf("MulByHalves(%q, %q, %d)", short(a), short(b), least), ok, product, direct)
}

func bezout(a string, b string) moreCall {
	g, x, y, ok := impl.BezoutNat(a, b)
	return called(fmt.Sprintf("BezoutNat(%q, %q)", short(a), short(b)), ok, g, x, y)
}

func powMod(a string, n string, m string) moreCall {
	power, ok := impl.PowModNat(a, n, m)
	return called(fmt.Sprintf("PowModNat(%q, %q, %q)", short(a), short(n), short(m)), ok, power)
}

func sqrt(a string) moreCall {
	root, left, ok := impl.SqrtNat(a)
	return called(fmt.Sprintf("SqrtNat(%q)", short(a)), ok, root, left)
}

func chinese(rests []string, moduli []string) moreCall {
	x, product, ok := impl.ChineseNat(rests, moduli)
	return called(fmt.Sprintf("ChineseNat(%s, %s)", shortList(rests), shortList(moduli)), ok, x, product)
}

func termsOf(x string) moreCall {
	terms, ok := impl.TermsOf(x)
	return called(fmt.Sprintf("TermsOf(%q)", short(x)), ok, terms)
}

func ofTerms(l []string) moreCall {
	number, ok := impl.OfTerms(l)
	return called(fmt.Sprintf("OfTerms(%s)", shortList(l)), ok, number)
}

func convergents(l []string) moreCall {
	numbers, ok := impl.ConvergentsOf(l)
	return called(fmt.Sprintf("ConvergentsOf(%s)", shortList(l)), ok, numbers)
}

func best(x string, most string) moreCall {
	number, ok := impl.BestNum(x, most)
	return called(fmt.Sprintf("BestNum(%q, %q)", short(x), short(most)), ok, number)
}

func factors(a string) moreCall {
	list, ok := impl.FactorNat(a)
	return called(fmt.Sprintf("FactorNat(%q)", short(a)), ok, list)
}

// words makes a list of a text's words.
func words(s string) []string { return strings.Fields(s) }

func shortList(l []string) string {
	if len(l) > 6 {
		return fmt.Sprintf("%d texts: %s .. %s", len(l), shortList(l[:3]), shortList(l[len(l)-3:]))
	}
	var out []string
	for _, s := range l {
		out = append(out, fmt.Sprintf("%q", short(s)))
	}
	return strings.Join(out, " ")
}

func tens(power int) *big.Int {
	return new(big.Int).Exp(big.NewInt(10), big.NewInt(int64(power)), nil)
}

// modelHalves counts the direct products by the texts of numbers alone.
func modelHalves(a *big.Int, b *big.Int, least int) int {
	long := max(len(a.String()), len(b.String()))
	if min(len(a.String()), len(b.String())) <= least {
		return 1
	}
	cut := tens((long + 1) / 2)
	a1, a0 := new(big.Int).QuoRem(a, cut, new(big.Int))
	b1, b0 := new(big.Int).QuoRem(b, cut, new(big.Int))
	sums := modelHalves(new(big.Int).Add(a1, a0), new(big.Int).Add(b1, b0), least)
	return modelHalves(a1, b1, least) + modelHalves(a0, b0, least) + sums
}

// modelBezout goes back from the end, where the chapter goes from the front: of b and a modulo b it knows x and y by then.
func modelBezout(a *big.Int, b *big.Int) (*big.Int, *big.Int, *big.Int) {
	if b.Sign() == 0 {
		return a, big.NewInt(1), big.NewInt(0)
	}
	quotient, rest := new(big.Int).QuoRem(a, b, new(big.Int))
	g, x, y := modelBezout(b, rest)
	return g, y, new(big.Int).Sub(x, quotient.Mul(quotient, y))
}

// modelTerms takes whole parts off, one by one.
func modelTerms(x *big.Rat) []string {
	down := new(big.Int).Div(x.Num(), x.Denom())
	left := new(big.Rat).Sub(x, new(big.Rat).SetInt(down))
	if left.Sign() == 0 {
		return []string{down.String()}
	}
	return append([]string{down.String()}, modelTerms(left.Inv(left))...)
}

// modelOfTerms goes from the last term to the first one.
func modelOfTerms(t *testing.T, l []string) *big.Rat {
	t.Helper()
	out := ratOf(t, l[len(l)-1])
	for at := len(l) - 2; at >= 0; at-- {
		out.Add(ratOf(t, l[at]), out.Inv(out))
	}
	return out
}

// modelBest looks at all bottoms, from the least one on, and for each at the numbers just below and above.
func modelBest(x *big.Rat, most int64) *big.Rat {
	var nearest, least *big.Rat
	for bottom := int64(1); bottom <= most; bottom++ {
		down := new(big.Int).Mul(x.Num(), big.NewInt(bottom))
		down.Div(down, x.Denom())
		for up := range int64(2) {
			number := new(big.Rat).SetFrac(new(big.Int).Add(down, big.NewInt(up)), big.NewInt(bottom))
			distance := new(big.Rat).Sub(number, x)
			distance.Abs(distance)
			if nearest == nil || distance.Cmp(least) < 0 {
				nearest, least = number, distance
			}
		}
	}
	return nearest
}

// primeFrom gives the first prime from n on.
func primeFrom(n *big.Int) *big.Int {
	prime := new(big.Int).Set(n)
	for !prime.ProbablyPrime(20) {
		prime.Add(prime, big.NewInt(1))
	}
	return prime
}
