package tests

import (
	"math/big"
	"strings"
	"testing"
)

// num makes a number whose top and bottom have at most so many digits; a bottom of 0 digits makes a whole one.
func (d *dice) num(top int, bottom int) string {
	over, _ := new(big.Int).SetString(d.nat(top), 10)
	under := big.NewInt(1)
	if bottom > 0 {
		under.SetString(d.nat(bottom), 10)
	}
	if under.Sign() == 0 {
		under.SetInt64(7)
	}
	n := new(big.Rat).SetFrac(over, under)
	if d.below(2) == 0 {
		n.Neg(n)
	}
	return n.RatString()
}

// smallNums are all fractions with small tops and bottoms, the signs of both kinds among them.
func smallNums() []string {
	var out []string
	for top := -7; top <= 7; top++ {
		for bottom := 1; bottom <= 6; bottom++ {
			n := big.NewRat(int64(top), int64(bottom))
			if n.Denom().Int64() == int64(bottom) {
				out = append(out, n.RatString())
			}
		}
	}
	return out
}

// nums are numbers with all kinds of lengths, the edges among them. 10^600 - 1 is 9 times a number that is prime to 10,
// so powers of ten stay over it and under it.
func nums() []string {
	d := &dice{state: 17}
	out := []string{
		"0", "1", "-1", "2", "-2", "1/2", "-1/2", "3/2", "-3/2", "2/3", "-7/2", "1/3", "9", "-10", "1/9", "10/9",
		"999999", "1000000", "-1000001", "1/999999", "-999999/1000000", "1000000/999999", "-999998/999999", "1/1000000",
		"-999999999999", "1000000000000/7", "9223372036854775807", "-9223372036854775808/3",
		nines(600), "-" + nines(600), one(599), "1/" + nines(600), "-1/" + nines(600), "2/" + nines(600), "1/" + one(599),
		nines(600) + "/2", "-" + nines(600) + "/" + one(599), one(599) + "/" + nines(600), "2/" + strings.Repeat("5", 600), nines(300) + "/" + one(299),
	}
	for _, digits := range []int{1, 2, 5, 6, 7, 12, 13, 20, 60, 150, 299, 300, 301} {
		out = append(out, d.num(digits, 0), d.num(digits, digits), d.num(1+d.below(digits), digits))
	}
	return append(out, d.num(600, 0), d.num(600, 600), d.num(599, 600))
}

func ratOf(t *testing.T, s string) *big.Rat {
	t.Helper()
	n, ok := new(big.Rat).SetString(s)
	if !ok {
		t.Fatalf("no number: %q", s)
	}
	return n
}

// toldIfNum asks for n where its top and bottom are short enough, and for the zero answer otherwise.
func toldIfNum(t *testing.T, what string, got string, ok bool, n *big.Rat) {
	t.Helper()
	top := new(big.Int).Abs(n.Num()).String()
	if len(top) <= 600 && len(n.Denom().String()) <= 600 {
		told(t, what, got, ok, n.RatString())
	} else {
		refused(t, what, got, ok)
	}
}

// eachPair goes through all pairs of small numbers, and of those of all lengths.
func eachPair(try func(a string, b string)) {
	for _, list := range [][]string{smallNums(), nums()} {
		for _, a := range list {
			for _, b := range list {
				try(a, b)
			}
		}
	}
}
