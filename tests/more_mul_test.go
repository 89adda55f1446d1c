package tests

import (
	"fmt"
	"math/big"
	"strings"
	"testing"
	"time"

	"loop.example/g00201/impl"
)

// halved asks for the product that MulNat tells, and for as many direct products as the model counts.
func halved(t *testing.T, a string, b string, least int) int {
	t.Helper()
	x, y := bigOf(t, a), bigOf(t, b)
	want, fits := impl.MulNat(a, b)
	if !fits {
		halves(a, b, least).isZero(t)
		return 0
	}
	direct := modelHalves(x, y, least)
	halves(a, b, least).is(t, fmt.Sprint(want, " ", direct))
	if product := x.Mul(x, y).String(); product != want {
		t.Errorf("MulNat of %q and %q: %q", short(a), short(b), short(want))
	}
	return direct
}

// Products counted by hand. 12 by 34 is 1 by 3, 2 by 4 and 3 by 7; of 99 by 99 the sums have two digits again.
func TestHalvesByHand(t *testing.T) {
	for _, c := range []struct {
		a, b   string
		least  int
		wanted string
	}{
		{"0", "0", 1, "0 1"}, {"0", "7", 1, "0 1"}, {"7", "8", 1, "56 1"}, {"7", "89", 1, "623 1"}, {"89", "0", 1, "0 1"},
		{"12", "34", 1, "408 3"}, {"99", "99", 1, "9801 5"}, {"10", "10", 1, "100 3"}, {"90", "91", 1, "8190 3"}, {"19", "91", 1, "1729 5"},
		{"12", "34", 2, "408 1"}, {"99", "99", 2, "9801 1"}, {"99", "999", 2, "98901 1"}, {"999", "999", 2, "998001 5"}, {"100", "999", 2, "99900 3"},
		// 46 and 134 are cut ahead of two digits, 46 into 0 and 46: 0 by 1, 46 by 34 and 46 by 35.
		{"46", "134", 1, "6164 7"}, {"134", "46", 1, "6164 7"}, {"1234", "5678", 1, "7006652 13"}, {"1234", "5678", 2, "7006652 3"}, {"1234", "5678", 3, "7006652 3"}, {"1234", "5678", 4, "7006652 1"},
		// Noughts behind make parts that are 0, and 0 has one digit.
		{"100", "100", 1, "10000 3"}, {"100", "10", 1, "1000 3"}, {"1000000", "99", 1, "99000000 5"}, {"1000", "1000", 1, "1000000 7"}, {"1001", "1001", 1, "1002001 7"},
		// 100000 is cut into 100 and 0: 100 by 12 (three of its own), 0 by 345, 100 by 357 (three).
		{"100000", "12345", 1, "1234500000 7"},
	} {
		halves(c.a, c.b, c.least).is(t, c.wanted)
	}
}

// One of both with just least digits is told directly; with one more digit in both there are halves.
func TestHalvesOfLeastDigits(t *testing.T) {
	d := &dice{state: 811}
	for _, least := range []int{1, 2, 3, 5, 6, 7, 12, 50, 99, 100} {
		for _, more := range []int{0, 1, 2, least, 3 * least} {
			for range 5 {
				short, long := d.nat(least), d.nat(least+more)
				if halved(t, short, long, least) != 1 || halved(t, long, short, least) != 1 {
					t.Errorf("%d and %d digits, least %d: not told directly", least, least+more, least)
				}
				if halved(t, d.nat(least+1), d.nat(least+1+more), least) < 3 {
					t.Errorf("%d and %d digits, least %d: told directly", least+1, least+1+more, least)
				}
			}
		}
	}
}

func TestHalvesOfWrongLeast(t *testing.T) {
	for _, a := range []string{"0", "1", "12", nines(101), nines(300)} {
		halves(a, a, 1).is(t, moreProduct(t, a, 1))
		halves(a, a, 100).is(t, moreProduct(t, a, 100))
		for _, least := range append(wrongInts(), -100, 0, 101, 102, 600) {
			halves(a, a, least).isZero(t)
		}
	}
}

func moreProduct(t *testing.T, a string, least int) string {
	n := bigOf(t, a)
	direct := modelHalves(n, n, least)
	return fmt.Sprint(n.Mul(n, n), " ", direct)
}

// From a least of 2 on there are never more direct products than pairs of digits; with 1 that is so of long numbers only,
// as sums of two digits each have one more.
func TestHalvesOfDrawnNumbers(t *testing.T) {
	t.Parallel()
	d := &dice{state: 821}
	leasts := []int{1, 1, 2, 3, 4, 5, 6, 7, 10, 25, 60, 100}
	for n := range 3000 {
		least := leasts[d.below(len(leasts))]
		longA := 1 + d.below(30)
		longB := longA
		switch n % 3 {
		case 1:
			longB = 1 + d.below(60)
		case 2:
			longA, longB = 1+d.below(320), 1+d.below(320)
			least = max(least, 2)
		}
		direct := halved(t, d.nat(longA), d.nat(longB), least)
		if (least > 1 || longA == longB && longA > 8) && direct > longA*longB {
			t.Errorf("%d by %d digits, least %d: %d direct products", longA, longB, least, direct)
		}
	}
}

// Numbers of very different lengths, noughts and nines among them.
func TestHalvesOfUnlikeLengths(t *testing.T) {
	for _, a := range []string{"0", "1", "10", "99", "101", "1000001", one(99), one(100), nines(100), nines(101), one(299)} {
		for _, b := range []string{"0", "5", "12", "999", one(6), one(250), nines(299), nines(498), nines(500), one(598), nines(599), nines(600)} {
			for _, least := range []int{1, 2, 3, 99, 100} {
				halved(t, a, b, least)
				halved(t, b, a, least)
			}
		}
	}
}

// A product may have just MaxDigits digits; both factors together then have as many, or one more.
func TestHalvesUpToMaxDigits(t *testing.T) {
	for _, c := range []struct {
		a, b string
		fits bool
	}{
		{nines(300), nines(300), true}, {nines(301), nines(300), false}, {one(300), one(299), true}, {one(300), one(300), false},
		{one(300), nines(300), true}, {"5" + strings.Repeat("0", 299), "2" + strings.Repeat("0", 300), false}, {"5" + strings.Repeat("0", 299), "1" + nines(300), true},
		{nines(600), "1", true}, {nines(600), "0", true}, {nines(600), "2", false}, {one(599), "9", true}, {one(599), "10", false}, {one(598), "99", true},
		{nines(600), nines(600), false}, {nines(599), "10", true}, {nines(599), "11", false}, {one(499), nines(101), true}, {one(500), nines(101), false},
	} {
		if _, fits := impl.MulNat(c.a, c.b); fits != c.fits {
			t.Errorf("%q by %q: fits is %v", short(c.a), short(c.b), fits)
		}
		for _, least := range []int{1, 2, 99, 100} {
			halved(t, c.a, c.b, least)
			halved(t, c.b, c.a, least)
		}
	}
}

func TestHalvesInGoodTime(t *testing.T) {
	inTime(t, 20*time.Second, func() {
		for _, a := range []string{nines(300), strings.Repeat("89", 150)} {
			for range 20 {
				impl.MulByHalves(a, a, 1)
				impl.MulByHalves(nines(598), "89", 1)
			}
		}
		long := strings.Repeat("1", 1<<20)
		for _, least := range []int{1, 100} {
			halves(long, long, least).isZero(t)
			halves(long, "2", least).isZero(t)
			halves("2", long, least).isZero(t)
		}
	})
}

// What the tests count by is itself held against counts that are known.
func TestModelHalves(t *testing.T) {
	// With digits so small no sum has one digit more, so that twice as many digits are three times as many products.
	for digits, want := 1, 1; digits <= 8; digits, want = digits*2, want*3 {
		n := bigOf(t, strings.Repeat("1", digits))
		if got := modelHalves(n, n, 1); got != want {
			t.Errorf("%d digits: %d direct products, not %d", digits, got, want)
		}
	}
	if got := modelHalves(big.NewInt(1234), big.NewInt(5678), 1); got != 13 {
		t.Errorf("1234 by 5678: %d direct products", got)
	}
}
