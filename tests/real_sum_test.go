package tests

import (
	"fmt"
	"math"
	"math/big"
	"testing"

	"loop.example/g00201/impl"
)

// realCall is a function of two reals, what it does with their numbers, and the sign of its 0.
type realCall struct {
	name    string
	call    func(impl.Real, impl.Real) (impl.Real, bool)
	numbers func(*big.Rat, *big.Rat) *big.Rat
	floats  func(float64, float64) float64
	neg     func(bool, bool) bool
}

func realCalls() []realCall {
	one := func(a bool, b bool) bool { return a != b }
	return []realCall{
		{"AddReal", impl.AddReal, new(big.Rat).Add, func(a float64, b float64) float64 { return a + b }, func(a bool, b bool) bool { return a && b }},
		{"SubReal", impl.SubReal, new(big.Rat).Sub, func(a float64, b float64) float64 { return a - b }, func(a bool, b bool) bool { return a && !b }},
		{"MulReal", impl.MulReal, new(big.Rat).Mul, func(a float64, b float64) float64 { return a * b }, one},
		{"DivReal", impl.DivReal, new(big.Rat).Quo, func(a float64, b float64) float64 { return a / b }, one},
	}
}

func (c realCall) is(t *testing.T, a impl.Real, b impl.Real, want impl.Real) {
	t.Helper()
	got, ok := c.call(a, b)
	isReal(t, fmt.Sprintf("%s(%v, %v)", c.name, a, b), got, ok, want)
}

func (c realCall) isZero(t *testing.T, a impl.Real, b impl.Real) {
	t.Helper()
	got, ok := c.call(a, b)
	noReal(t, fmt.Sprintf("%s(%v, %v)", c.name, a, b), got, ok)
}

// asModel asks for what the numbers come to.
func (c realCall) asModel(t *testing.T, a impl.Real, b impl.Real) {
	t.Helper()
	if c.name == "DivReal" && b.Man == 0 {
		c.isZero(t, a, b)
		return
	}
	c.is(t, a, b, modelReal(c.numbers(ratReal(a), ratReal(b)), c.neg(a.Neg, b.Neg)))
}

func adds(t *testing.T, a impl.Real, b impl.Real, want impl.Real) { realCalls()[0].is(t, a, b, want) }

func subtracts(t *testing.T, a impl.Real, b impl.Real, want impl.Real) {
	realCalls()[1].is(t, a, b, want)
}

func multiplies(t *testing.T, a impl.Real, b impl.Real, want impl.Real) {
	realCalls()[2].is(t, a, b, want)
}

func divides(t *testing.T, a impl.Real, b impl.Real, want impl.Real) {
	realCalls()[3].is(t, a, b, want)
}

// An outcome of 0 has its sign by the signs of both.
func TestSignsOfNought(t *testing.T) {
	o, one, five := nought(), fin(fullMan, -52), fin(5, -150)
	m := below(o)
	adds(t, o, o, o)
	adds(t, o, m, o)
	adds(t, m, o, o)
	adds(t, m, m, m)
	subtracts(t, o, o, o)
	subtracts(t, o, m, o)
	subtracts(t, m, o, m)
	subtracts(t, m, m, o)
	multiplies(t, o, o, o)
	multiplies(t, o, m, m)
	multiplies(t, m, o, m)
	multiplies(t, m, m, o)
	for _, x := range []impl.Real{one, five, fin(lastMan, 150)} {
		adds(t, x, below(x), o)
		adds(t, below(x), x, o)
		subtracts(t, x, x, o)
		subtracts(t, below(x), below(x), o)
		multiplies(t, x, o, o)
		multiplies(t, x, m, m)
		multiplies(t, below(x), o, m)
		multiplies(t, below(x), m, o)
		multiplies(t, m, x, m)
		divides(t, o, x, o)
		divides(t, m, x, m)
		divides(t, o, below(x), m)
		divides(t, m, below(x), o)
		for _, by := range []impl.Real{o, m} {
			realCalls()[3].isZero(t, x, by)
			realCalls()[3].isZero(t, below(x), by)
			realCalls()[3].isZero(t, by, by)
			realCalls()[3].isZero(t, by, below(by))
		}
		// 0 that is taken away leaves the other one.
		adds(t, x, o, x)
		adds(t, m, x, x)
		subtracts(t, x, m, x)
		subtracts(t, o, x, below(x))
		subtracts(t, m, x, below(x))
	}
}

func TestSumsByHand(t *testing.T) {
	one, least, most, little := fin(fullMan, -52), fin(1, -150), fin(lastMan, 150), fin(fullMan, -105)
	adds(t, one, one, fin(fullMan, -51))
	adds(t, fin(7205759403792794, -56), fin(7205759403792794, -55), fin(5404319552844596, -54))
	// Half a step: the even one; a bit more: the next one.
	adds(t, one, little, one)
	adds(t, fin(fullMan+1, -52), little, fin(fullMan+2, -52))
	adds(t, one, fin(fullMan+1, -105), fin(fullMan+1, -52))
	adds(t, one, fin(lastMan, -106), one)
	adds(t, fin(lastMan, -52), fin(fullMan, -105), fin(fullMan, -51))
	subtracts(t, one, fin(fullMan, -106), one)
	subtracts(t, one, fin(fullMan+1, -106), fin(lastMan, -53))
	subtracts(t, one, little, fin(lastMan, -53))
	subtracts(t, fin(fullMan+1, -52), little, one)
	subtracts(t, fin(fullMan+3, -52), little, fin(fullMan+2, -52))
	// Very unlike ones.
	adds(t, most, least, most)
	subtracts(t, most, least, most)
	subtracts(t, least, most, below(most))
	adds(t, one, below(least), one)
	subtracts(t, fin(fullMan, 150), least, fin(fullMan, 150))
	// The least ones.
	adds(t, least, least, fin(2, -150))
	adds(t, fin(fullMan-1, -150), least, fin(fullMan, -150))
	adds(t, fin(lastMan, -150), least, fin(fullMan, -149))
	subtracts(t, fin(fullMan, -149), least, fin(lastMan, -150))
	subtracts(t, fin(fullMan, -150), least, fin(fullMan-1, -150))
	subtracts(t, least, fin(2, -150), below(least))
	// Too great.
	adds(t, most, most, infinite())
	adds(t, below(most), below(most), below(infinite()))
	subtracts(t, below(most), most, below(infinite()))
	adds(t, most, fin(fullMan, 97), infinite())
	adds(t, most, fin(lastMan, 96), most)
	adds(t, below(most), below(fin(fullMan, 97)), below(infinite()))
	adds(t, fin(lastMan-1, 150), fin(fullMan, 97), fin(lastMan-1, 150))
}

func TestProductsByHand(t *testing.T) {
	one, least, most, three := fin(fullMan, -52), fin(1, -150), fin(lastMan, 150), fin(fullMan+fullMan/2, -51)
	multiplies(t, three, three, fin(9<<49, -49))
	divides(t, one, three, fin(6004799503160661, -54))
	divides(t, below(one), three, below(fin(6004799503160661, -54)))
	divides(t, three, three, one)
	divides(t, three, below(three), below(one))
	multiplies(t, fin(6004799503160661, -54), three, one)
	// Halves: (2^52 + 1) 3/2 has the even one above it, (2^52 + 3) 3/2 below it.
	multiplies(t, fin(fullMan+1, 0), fin(fullMan+fullMan/2, -52), fin(fullMan+fullMan/2+2, 0))
	multiplies(t, fin(fullMan+3, 0), fin(fullMan+fullMan/2, -52), fin(fullMan+fullMan/2+4, 0))
	multiplies(t, fin(fullMan+1, 0), fin(fullMan+1, 0), fin(fullMan+2, 52))
	multiplies(t, fin(lastMan, 0), fin(lastMan, 0), fin(lastMan-1, 53))
	// Too small: 0 with its sign, or the least ones, rounded once.
	multiplies(t, least, least, nought())
	multiplies(t, least, below(least), below(nought()))
	multiplies(t, below(least), below(least), nought())
	multiplies(t, least, fin(fullMan, -53), nought())
	multiplies(t, least, fin(fullMan+1, -53), least)
	multiplies(t, below(least), fin(fullMan, -53), below(nought()))
	multiplies(t, fin(3, -150), fin(fullMan, -53), fin(2, -150))
	multiplies(t, fin(5, -150), fin(fullMan, -53), fin(2, -150))
	multiplies(t, fin(fullMan+1, -150), fin(fullMan, -53), fin(fullMan/2, -150))
	multiplies(t, fin(fullMan+3, -150), fin(fullMan, -53), fin(fullMan/2+2, -150))
	multiplies(t, fin(lastMan, -150), fin(fullMan, -53), fin(fullMan, -150))
	divides(t, least, most, nought())
	divides(t, least, below(most), below(nought()))
	divides(t, least, fin(fullMan, -51), nought())
	divides(t, fin(3, -150), fin(fullMan, -51), fin(2, -150))
	divides(t, below(fin(3, -150)), fin(fullMan, -51), below(fin(2, -150)))
	divides(t, fin(fullMan, -150), three, fin(1501199875790165, -150))
	// Too great.
	multiplies(t, most, most, infinite())
	multiplies(t, most, below(most), below(infinite()))
	multiplies(t, most, fin(fullMan+1, -52), infinite())
	multiplies(t, most, one, most)
	multiplies(t, most, fin(lastMan, -53), fin(lastMan-1, 150))
	multiplies(t, fin(fullMan, 150), fin(fullMan, -51), infinite())
	multiplies(t, fin(fullMan, 149), fin(fullMan, -51), fin(fullMan, 150))
	divides(t, most, least, infinite())
	divides(t, below(most), least, below(infinite()))
	divides(t, fin(fullMan, 150), fin(fullMan, -53), infinite())
	divides(t, fin(fullMan, 149), fin(fullMan, -53), fin(fullMan, 150))
	divides(t, fin(lastMan, 150), fin(lastMan, -53), infinite())
	divides(t, fin(lastMan-1, 150), fin(lastMan, -53), fin(lastMan, 150))
	divides(t, least, least, one)
	divides(t, most, most, one)
}

// All pairs of edges of both signs, and drawn ones, as their numbers are.
func TestSumsOfEdges(t *testing.T) {
	t.Parallel()
	edges, d := signedEdges(), &dice{state: 1049}
	for _, c := range realCalls() {
		for range 3000 {
			c.asModel(t, edges[d.below(len(edges))], edges[d.below(len(edges))])
		}
	}
}

func TestSumsOfDrawnReals(t *testing.T) {
	t.Parallel()
	d := &dice{state: 1051}
	for _, c := range realCalls() {
		for range 3000 {
			a, b := d.real(), d.real()
			if d.below(2) == 0 { // close to each other
				b.Exp, b.Man = min(max(a.Exp+d.below(7)-3, -149), 150), b.Man|fullMan
			}
			c.asModel(t, a, b)
		}
	}
}

// asFloat is a finite real as a float of the language, which has all of them.
func asFloat(r impl.Real) float64 {
	f := math.Ldexp(float64(r.Man), r.Exp)
	if r.Neg {
		return -f
	}
	return f
}

// The language's own floats come to the same, where they are not so small that reals have fewer bits.
func TestSumsAreTheFloats(t *testing.T) {
	t.Parallel()
	d := &dice{state: 1061}
	for _, c := range realCalls() {
		same := 0
		for range 2500 {
			a, b := d.real(), d.real()
			if c.name == "DivReal" && b.Man == 0 {
				continue
			}
			f := c.floats(asFloat(a), asFloat(b))
			if math.Abs(f) < 0x1p-98 && (f != 0 || a.Man != 0 && b.Man != 0) {
				continue
			}
			got, ok := c.call(a, b)
			same++
			if math.Abs(f) >= 0x1p203 {
				isReal(t, fmt.Sprintf("%s(%v, %v)", c.name, a, b), got, ok, impl.Real{Neg: f < 0, Exp: 151})
			} else if !ok || asFloat(got) != f || got.Man != 0 && got.Neg != math.Signbit(f) {
				t.Errorf("%s(%v, %v): %v, %v; the float is %v", c.name, a, b, got, ok, f)
			}
		}
		if same < 1200 {
			t.Errorf("%s: only %d are looked at", c.name, same)
		}
	}
}

// Sterbenz's lemma: of two reals above 0, neither more than twice the other one, the difference is exact.
func TestSterbenz(t *testing.T) {
	d := &dice{state: 1063}
	near, differ := 0, 0
	for range 4000 {
		a, b := d.above(), d.above()
		switch d.below(3) {
		case 0:
			b = fin(fullMan+d.wide()%fullMan, min(a.Exp+d.below(2), 150))
		case 1:
			b.Exp = a.Exp
			if b.Exp > -150 {
				b.Man |= fullMan
			}
		case 2: // just twice, or the next one to that
			b, _ = impl.AddReal(a, a)
			if next, ok := impl.NextReal(b); ok && d.below(2) == 0 {
				b = next
			}
		}
		if !impl.GoodReal(b) || b == infinite() {
			continue
		}
		x, y := ratReal(a), ratReal(b)
		if new(big.Rat).Mul(x, big.NewRat(2, 1)).Cmp(y) < 0 || new(big.Rat).Mul(y, big.NewRat(2, 1)).Cmp(x) < 0 {
			differ++
			continue
		}
		near++
		for _, pair := range [][2]impl.Real{{a, b}, {b, a}} {
			left, ok := impl.SubReal(pair[0], pair[1])
			number, okNumber := impl.NumOfReal(left)
			m, _ := impl.NumOfReal(pair[0])
			n, _ := impl.NumOfReal(pair[1])
			if exact, okExact := impl.SubNum(m, n); !ok || !okNumber || !okExact || number != exact {
				t.Errorf("SubReal(%v, %v): %v is not exact", pair[0], pair[1], left)
			}
		}
	}
	if near < 1500 || differ < 100 {
		t.Errorf("%d are near, %d are not", near, differ)
	}
	// A real that is more than twice the other one may be rounded.
	left, _ := impl.SubReal(fin(fullMan+1, -51), fin(lastMan, -53))
	if number, _ := impl.NumOfReal(left); ratOf(t, number).Cmp(new(big.Rat).Sub(times2(fullMan+1, -51), times2(lastMan, -53))) == 0 {
		t.Error("exact where it can't be")
	}
}

// Sums and products do not hang on their order, nor on the sign of all; 0 added and 1 multiplied change nothing.
func TestSumsDoNotHangOnOrder(t *testing.T) {
	d := &dice{state: 1069}
	one := fin(fullMan, -52)
	all := signedEdges()
	for range 1500 {
		all = append(all, d.real())
	}
	for _, a := range all {
		b := all[d.below(len(all))]
		sum, okSum := impl.AddReal(a, b)
		product, okProduct := impl.MulReal(a, b)
		if !okSum || !okProduct {
			t.Errorf("%v and %v: no sum, or no product", a, b)
		}
		adds(t, b, a, sum)
		multiplies(t, b, a, product)
		multiplies(t, below(a), b, below(product))
		subtracts(t, a, below(b), sum)
		if sum.Man != 0 || sum.Exp == 151 {
			adds(t, below(a), below(b), below(sum))
		}
		if a.Man > 0 {
			adds(t, a, nought(), a)
			adds(t, below(nought()), a, a)
			divides(t, a, a, one)
		}
		adds(t, a, below(nought()), a)
		subtracts(t, a, nought(), a)
		multiplies(t, a, one, a)
		multiplies(t, one, a, a)
		multiplies(t, a, below(one), below(a))
		divides(t, a, one, a)
	}
}

// With one that is not finite nothing is told.
func TestSumsOfInfiniteOnes(t *testing.T) {
	for _, c := range realCalls() {
		for _, endless := range []impl.Real{infinite(), below(infinite())} {
			for _, r := range append(signedEdges(), infinite(), below(infinite())) {
				c.isZero(t, r, endless)
				c.isZero(t, endless, r)
			}
		}
	}
}
