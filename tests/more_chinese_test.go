package tests

import (
	"fmt"
	"math/big"
	"slices"
	"strings"
	"testing"

	"loop.example/g00201/impl"
)

// chineseHolds asks for a number that leaves each rest and is below the product; there is just one.
func chineseHolds(t *testing.T, rests []string, moduli []string) {
	t.Helper()
	x, m, ok := impl.ChineseNat(rests, moduli)
	if !ok || !impl.GoodNat(x) || !impl.GoodNat(m) {
		t.Errorf("ChineseNat(%s, %s): %q, %q, %v", shortList(rests), shortList(moduli), short(x), short(m), ok)
		return
	}
	number, product := bigOf(t, x), big.NewInt(1)
	for at := range moduli {
		by := bigOf(t, moduli[at])
		product.Mul(product, by)
		left := new(big.Int).Mod(number, by)
		if want := new(big.Int).Mod(bigOf(t, rests[at]), by); left.Cmp(want) != 0 {
			t.Errorf("ChineseNat(%s, %s): %q leaves %q modulo %q, not %q", shortList(rests), shortList(moduli), short(x), short(left.String()), short(moduli[at]), short(want.String()))
		}
	}
	if product.String() != m || number.Cmp(product) >= 0 {
		t.Errorf("ChineseNat(%s, %s): %q of %q, not below %q", shortList(rests), shortList(moduli), short(x), short(m), short(product.String()))
	}
}

func coprime(moduli []int) bool {
	for at, m := range moduli {
		for _, n := range moduli[at+1:] {
			if new(big.Int).GCD(nil, nil, big.NewInt(int64(m)), big.NewInt(int64(n))).Int64() != 1 {
				return false
			}
		}
	}
	return !slices.Contains(moduli, 0)
}

func textsOf(numbers []int) []string {
	var out []string
	for _, n := range numbers {
		out = append(out, fmt.Sprint(n))
	}
	return out
}

// The first number that leaves all rests is looked for one by one.
func TestChineseOfAllSmallModuli(t *testing.T) {
	d := &dice{state: 857}
	try := func(moduli []int) {
		var rests []int
		for range moduli {
			rests = append(rests, d.below(15))
		}
		call := chinese(textsOf(rests), textsOf(moduli))
		if !coprime(moduli) {
			call.isZero(t)
			return
		}
		product, x := 1, 0
		for _, m := range moduli {
			product *= m
		}
		leaves := func() bool {
			for at, m := range moduli {
				if x%m != rests[at]%m {
					return false
				}
			}
			return true
		}
		for !leaves() {
			x++
		}
		call.is(t, fmt.Sprint(x, " ", product))
	}
	for a := range 14 {
		try([]int{a})
		for b := range 14 {
			try([]int{a, b})
			for c := range 14 {
				try([]int{a, b, c})
			}
		}
	}
}

func TestChineseByHand(t *testing.T) {
	for _, c := range []struct{ rests, moduli, want string }{
		{"2 3 2", "3 5 7", "23 105"}, {"0", "1", "0 1"}, {"5", "1", "0 1"}, {"5", "7", "5 7"}, {"7", "7", "0 7"}, {"100", "7", "2 7"}, {"0 0", "3 5", "0 15"}, {"2 4", "3 5", "14 15"},
		{"9 9 9", "1 1 1", "0 1"}, {"1 9 2", "2 1 3", "5 6"}, {"9 1 2", "1 2 3", "5 6"}, {"1 2 9", "2 3 1", "5 6"}, {"8 8", "3 5", "8 15"}, {"1 0", "1000000 999999", "999998000001 999999000000"},
		{nines(600), "10", "9 10"}, {nines(600) + " " + one(599), "10 7", "19 70"}, {nines(600), nines(600), "0 " + nines(600)}, {nines(599) + "8", nines(600), nines(599) + "8 " + nines(600)},
	} {
		chinese(words(c.rests), words(c.moduli)).is(t, c.want)
	}
	// Moduli of 0, wherever they stand, and two with a common divisor that are not next to each other.
	for _, c := range []struct{ rests, moduli string }{
		{"0", "0"}, {"1 0", "1 0"}, {"0 1", "0 1"}, {"1 2 0", "2 3 0"}, {"1 0 2", "2 0 3"}, {"0 0 0", "0 0 0"},
		{"1 1", "2 2"}, {"1 1", "2 4"}, {"1 2 1", "2 3 2"}, {"1 2 3 1", "6 5 7 4"}, {"0 0", "6 9"}, {"0 0 0", "6 35 143143"}, {"1 1", "999999 999"}, {"0 0", nines(200) + " " + nines(100)},
		// As many rests as moduli, no more and no fewer.
		{"", ""}, {"1", ""}, {"", "7"}, {"1 2", "7"}, {"1", "7 8"}, {"1 2 3", "7 8"}, {"1 2", "7 8 9"},
	} {
		chinese(words(c.rests), words(c.moduli)).isZero(t)
	}
}

func TestChineseOfManyModuli(t *testing.T) {
	primes := words("2 3 5 7 11 13 17 19 23 29 31 37 41 43 47 53 59 61 67 71 73")
	d := &dice{state: 859}
	for many := 1; many <= len(primes); many++ {
		var rests []string
		for range many {
			rests = append(rests, d.nat(1+d.below(4)))
		}
		if many <= 20 {
			chineseHolds(t, rests, primes[:many])
			chineseHolds(t, rests, slices.Repeat([]string{"1"}, many))
		} else {
			chinese(rests, primes[:many]).isZero(t)
			chinese(rests, slices.Repeat([]string{"1"}, many)).isZero(t)
		}
	}
}

// Great moduli: powers of primes that are not the same, in any order, and rests of any length.
func TestChineseOfDrawnNumbers(t *testing.T) {
	d := &dice{state: 863}
	primes := words("2 3 5 7 11 13 17 19 23 29 1000003 999983 999999999989 1000000007 18446744073709551557")
	for range 300 {
		many := 1 + d.below(10)
		chosen := slices.Clone(primes)
		for at := range chosen {
			other := d.below(at + 1)
			chosen[at], chosen[other] = chosen[other], chosen[at]
		}
		var rests, moduli []string
		for _, p := range chosen[:many] {
			power := new(big.Int).Exp(bigOf(t, p), big.NewInt(int64(d.below(4))), nil)
			moduli = append(moduli, power.String())
			rests = append(rests, d.nat(1+d.below(60)))
		}
		if d.below(4) == 0 {
			rests[d.below(many)] = d.nat(600)
		}
		chineseHolds(t, rests, moduli)
		// Any order of the same gives the same.
		want := chinese(rests, moduli)
		slices.Reverse(rests)
		slices.Reverse(moduli)
		chinese(rests, moduli).is(t, want.told)
	}
}

// The product of the moduli may have just MaxDigits digits.
func TestChineseUpToMaxDigits(t *testing.T) {
	d := &dice{state: 877}
	for _, c := range []struct {
		moduli string
		fits   bool
	}{
		{nines(600), true}, {nines(600) + " 1", true}, {"1 " + nines(600), true}, {nines(600) + " 2", false}, {"2 " + nines(600), false},
		{nines(300) + " " + one(300), true}, {one(300) + " " + nines(300), true}, {nines(301) + " " + one(300), false}, {one(300) + " " + nines(301), false},
		{one(599) + " 7", true}, {one(599) + " 11", false}, {nines(599) + " 10", true}, {"10 " + nines(599), true}, {nines(600) + " " + one(599), false},
		{nines(200) + " " + one(200) + " 1" + strings.Repeat("0", 199) + "1", true}, {nines(200) + " " + one(201) + " 1" + strings.Repeat("0", 199) + "1", false},
	} {
		moduli := words(c.moduli)
		for range 3 {
			var rests []string
			for range moduli {
				rests = append(rests, d.nat(1+d.below(600)))
			}
			if c.fits {
				chineseHolds(t, rests, moduli)
			} else {
				chinese(rests, moduli).isZero(t)
			}
		}
	}
}
