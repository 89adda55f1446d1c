package tests

import (
	"fmt"
	"math/big"
	"strings"
	"testing"

	"loop.example/g00201/impl"
)

// bezoutHolds asks for the x and y of the chapter's steps, and that they make what GcdNat tells.
func bezoutHolds(t *testing.T, a string, b string) {
	t.Helper()
	m, n := bigOf(t, a), bigOf(t, b)
	g, x, y := modelBezout(m, n)
	bezout(a, b).is(t, fmt.Sprint(g, " ", x, " ", y))
	common, ok := impl.GcdNat(a, b)
	told(t, fmt.Sprintf("GcdNat(%q, %q)", short(a), short(b)), common, ok, g.String())
	_, toldX, toldY, _ := impl.BezoutNat(a, b)
	m.Mul(m, bigOf(t, toldX))
	n.Mul(n, bigOf(t, toldY))
	if m.Add(m, n).Cmp(g) != 0 {
		t.Errorf("%q and %q: x and y make %q, not %q", short(a), short(b), short(m.String()), short(g.String()))
	}
}

func TestBezoutByHand(t *testing.T) {
	for _, c := range []struct{ a, b, want string }{
		{"240", "46", "2 -9 47"}, {"46", "240", "2 47 -9"},
		// One of both is 0: no step, or just one with a quotient of 0.
		{"1", "0", "1 1 0"}, {"0", "1", "1 0 1"}, {"7", "0", "7 1 0"}, {"0", "7", "7 0 1"},
		// The same, and multiples: the second one is what is left, if there is one.
		{"1", "1", "1 0 1"}, {"5", "5", "5 0 1"}, {"12", "4", "4 0 1"}, {"4", "12", "4 1 0"}, {"9", "1", "1 0 1"}, {"1", "9", "1 1 0"},
		{"2", "1", "1 0 1"}, {"3", "2", "1 1 -1"}, {"2", "3", "1 -1 1"}, {"5", "3", "1 -1 2"}, {"3", "5", "1 2 -1"}, {"8", "5", "1 2 -3"},
		{"10", "6", "2 -1 2"}, {"6", "10", "2 2 -1"}, {"6", "4", "2 1 -1"}, {"35", "15", "5 1 -2"}, {"1000000", "999999", "1 1 -1"},
		{one(599), nines(599), "1 1 -1"}, {nines(599), one(599), "1 -1 1"}, {nines(600), "0", nines(600) + " 1 0"}, {"0", nines(600), nines(600) + " 0 1"},
		{nines(600), nines(600), nines(600) + " 0 1"}, {nines(600), nines(300), nines(300) + " 0 1"}, {nines(300), nines(600), nines(300) + " 1 0"},
	} {
		bezout(c.a, c.b).is(t, c.want)
	}
	bezout("0", "0").isZero(t)
}

func TestBezoutOfAllSmallNumbers(t *testing.T) {
	for a := range 60 {
		for b := range 60 {
			if a+b > 0 {
				bezoutHolds(t, fmt.Sprint(a), fmt.Sprint(b))
			}
		}
	}
}

func TestBezoutOfDrawnNumbers(t *testing.T) {
	t.Parallel()
	d := &dice{state: 823}
	all := samples()
	for range 500 {
		a, b := all[d.below(len(all))], all[d.below(len(all))]
		if a != "0" || b != "0" {
			bezoutHolds(t, a, b)
		}
	}
	// Great divisors in common.
	for range 200 {
		common, long := d.nat(1+d.below(280)), 1+d.below(300)
		a, okA := impl.MulNat(common, d.nat(long))
		b, okB := impl.MulNat(common, d.nat(1+d.below(300)))
		if okA && okB && (a != "0" || b != "0") {
			bezoutHolds(t, a, b)
		}
	}
	// Fibonacci's numbers take the most steps.
	a, b := big.NewInt(0), big.NewInt(1)
	for len(a.Add(a, b).String()) <= impl.MaxDigits {
		a, b = b, a
	}
	a.Sub(a, b)
	bezoutHolds(t, b.String(), a.String())
	bezoutHolds(t, a.String(), b.String())
}

func TestPowModByHand(t *testing.T) {
	for _, c := range []struct{ a, n, m, want string }{
		{"3", "100", "7", "4"}, {"2", "10", "1000", "24"}, {"2", "10", "1024", "0"}, {"2", "10", "1025", "1024"}, {"7", "1", "5", "2"}, {"7", "1", "7", "0"}, {"7", "1", "8", "7"},
		// To the power of 0, also of 0 itself; modulo 1.
		{"0", "0", "1", "0"}, {"0", "0", "2", "1"}, {"5", "0", "7", "1"}, {"5", "0", "1", "0"}, {"5", "5", "1", "0"}, {"0", "1", "1", "0"}, {"0", "1", "9", "0"}, {"0", nines(60), "9", "0"},
		{"1", nines(60), nines(100), "1"}, {"1", "0", nines(100), "1"}, {nines(600), "0", "2", "1"},
		// A number above m, and one less than m: its powers are 1 and itself.
		{nines(600), "1", "10", "9"}, {nines(600), "2", "10", "1"}, {nines(600), nines(60), one(99), nines(99)}, {nines(600), one(59), one(99), "1"}, {nines(99) + "8", one(59), nines(100), "1"},
		{one(599), "1", nines(100), one(99)}, {one(599), nines(60), "9", "1"},
	} {
		powMod(c.a, c.n, c.m).is(t, c.want)
	}
}

// Beyond the digits that n and m may have, and modulo 0.
func TestPowModLimits(t *testing.T) {
	for _, a := range []string{"0", "1", "12", nines(600)} {
		powMod(a, one(60), "7").isZero(t)
		powMod(a, nines(61), "1").isZero(t)
		powMod(a, "1", one(100)).isZero(t)
		powMod(a, "0", nines(101)).isZero(t)
		for _, n := range []string{"0", "1", nines(60)} {
			powMod(a, n, "0").isZero(t)
		}
	}
}

func TestPowModOfDrawnNumbers(t *testing.T) {
	d := &dice{state: 827}
	for n := range 600 {
		a, power, m := d.nat(1+d.below(600)), d.nat(1+d.below(60)), d.nat(1+d.below(100))
		if n%3 == 0 {
			a, power, m = d.nat(1+d.below(3)), d.nat(1+d.below(2)), d.nat(1+d.below(3))
		}
		if m == "0" {
			m = "1"
		}
		powMod(a, power, m).is(t, new(big.Int).Exp(bigOf(t, a), bigOf(t, power), bigOf(t, m)).String())
	}
}

// Fermat: a number to the power of a prime is that number modulo the prime; of most others that is not so.
func TestPowModIsFermats(t *testing.T) {
	d := &dice{state: 829}
	others := 0
	for p := int64(2); p <= 200; p++ {
		fermat := true
		for a := int64(0); a <= p+2; a++ {
			power, ok := impl.PowModNat(fmt.Sprint(a), fmt.Sprint(p), fmt.Sprint(p))
			fermat = fermat && ok && power == fmt.Sprint(a%p)
		}
		if prime := big.NewInt(p).ProbablyPrime(20); prime && !fermat {
			t.Errorf("not so of the prime %d", p)
		} else if !prime && !fermat {
			others++
		}
	}
	if others < 100 {
		t.Errorf("not so of %d others only", others)
	}
	for _, digits := range []int{5, 6, 7, 12, 13, 30, 59, 60} {
		prime := primeFrom(bigOf(t, d.nat(digits))).String()
		for _, a := range []string{"0", "1", "2", d.nat(digits), d.nat(600), prime} {
			powMod(a, prime, prime).is(t, new(big.Int).Mod(bigOf(t, a), bigOf(t, prime)).String())
		}
	}
}

// rootHolds asks for the greatest number whose square is not above a.
func rootHolds(t *testing.T, a *big.Int) {
	t.Helper()
	root, left, ok := impl.SqrtNat(a.String())
	if !ok || !impl.GoodNat(root) || !impl.GoodNat(left) {
		t.Errorf("SqrtNat(%q): %q, %q, %v", short(a.String()), short(root), short(left), ok)
		return
	}
	r, square := bigOf(t, root), new(big.Int)
	if square.Mul(r, r).Add(square, bigOf(t, left)).Cmp(a) != 0 {
		t.Errorf("SqrtNat(%q): the square of %q and %q make %q", short(a.String()), short(root), short(left), short(square.String()))
	}
	next := r.Add(r, big.NewInt(1))
	if next.Mul(next, next).Cmp(a) <= 0 {
		t.Errorf("SqrtNat(%q): the square of one more than %q is not above it", short(a.String()), short(root))
	}
}

func TestSqrt(t *testing.T) {
	for _, c := range []struct{ a, want string }{
		{"0", "0 0"}, {"1", "1 0"}, {"2", "1 1"}, {"3", "1 2"}, {"4", "2 0"}, {"5", "2 1"}, {"8", "2 4"}, {"9", "3 0"}, {"10", "3 1"}, {"15", "3 6"}, {"16", "4 0"}, {"99", "9 18"}, {"100", "10 0"},
		{"1000003", "1000 3"}, {"999999", "999 1998"}, {"1000000", "1000 0"}, {"999999999999", "999999 1999998"}, {"1000000000000", "1000000 0"},
		{one(598), one(299) + " 0"}, {nines(598), nines(299) + " 1" + nines(298) + "8"}, {nines(600), nines(300) + " 1" + nines(299) + "8"},
	} {
		sqrt(c.a).is(t, c.want)
	}
	for a := range int64(5000) {
		rootHolds(t, big.NewInt(a))
	}
	for _, a := range samples() {
		rootHolds(t, bigOf(t, a))
	}
	d := &dice{state: 839}
	for range 600 {
		root := bigOf(t, d.nat(1+d.below(300)))
		square := new(big.Int).Mul(root, root)
		rootHolds(t, square)
		sqrt(square.String()).is(t, root.String()+" 0")
		if root.Sign() > 0 {
			rootHolds(t, new(big.Int).Sub(square, big.NewInt(1)))
		}
		if more := new(big.Int).Add(square, big.NewInt(1)); len(more.String()) <= impl.MaxDigits {
			rootHolds(t, more)
		}
		rootHolds(t, bigOf(t, d.nat(impl.MaxDigits)))
	}
}

// Factors are told for all small numbers, as a sieve tells them.
func TestFactorsOfSmallNumbers(t *testing.T) {
	const most = 5000
	var least [most + 1]int
	for n := 2; n <= most; n++ {
		for many := n; many <= most && least[n] == 0; many += n {
			if least[many] == 0 && many > n {
				least[many] = n
			}
		}
	}
	for n := 2; n <= most; n++ {
		var want []string
		rest := n
		for least[rest] > 0 {
			want = append(want, fmt.Sprint(least[rest]))
			rest /= least[rest]
		}
		want = append(want, fmt.Sprint(rest))
		factors(fmt.Sprint(n)).is(t, strings.Join(want, " "))
	}
}

func TestFactorsByHand(t *testing.T) {
	for _, c := range []struct{ a, want string }{
		{"2", "2"}, {"3", "3"}, {"4", "2 2"}, {"6", "2 3"}, {"9", "3 3"}, {"720720", "2 2 2 2 3 3 5 7 11 13"},
		{"1000000000000", strings.Repeat("2 ", 12) + strings.TrimSpace(strings.Repeat("5 ", 12))}, {"549755813888", strings.TrimSpace(strings.Repeat("2 ", 39))}, {"282429536481", strings.TrimSpace(strings.Repeat("3 ", 24))},
		{"999966000289", "999983 999983"}, {"999962000357", "999979 999983"}, {"999999999989", "999999999989"}, {"999999999961", "999999999961"}, {"999999999999", "3 3 3 7 11 13 37 101 9901"}, {"999998", "2 31 127 127"}, {"1000003", "1000003"},
	} {
		factors(c.a).is(t, c.want)
	}
	for _, a := range []string{"0", "1", "1000000000001", "1000006000009", "2000000000000", "9999999999999", "10000000000000", "9223372036854775807", "9223372036854775809", "18446744073709551618", nines(600), "02", "+2", "-2", "2 ", "2/1"} {
		factors(a).isZero(t)
	}
}

// The factors multiply to the number, none falls, and none has a factor itself.
func TestFactorsOfDrawnNumbers(t *testing.T) {
	t.Parallel()
	d := &dice{state: 853}
	for range 400 {
		a := d.nat(1 + d.below(12))
		if a == "0" || a == "1" {
			continue
		}
		list, ok := impl.FactorNat(a)
		product, before := big.NewInt(1), big.NewInt(2)
		for _, factor := range list {
			n := bigOf(t, factor)
			if !impl.GoodNat(factor) || n.Cmp(before) < 0 || !n.ProbablyPrime(20) {
				t.Errorf("FactorNat(%q): %q", a, list)
			}
			product.Mul(product, n)
			before = n
		}
		if !ok || product.String() != a {
			t.Errorf("FactorNat(%q): %q, %v", a, list, ok)
		}
		for _, factor := range list {
			factors(factor).is(t, factor)
		}
	}
}
