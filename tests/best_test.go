package tests

import (
	"fmt"
	"math/big"
	"strings"
	"testing"
	"time"

	"loop.example/g00201/impl"
)

func TestBestByHand(t *testing.T) {
	for _, c := range []struct{ x, most, want string }{
		{"355/113", "10", "22/7"}, {"355/113", "1", "3"}, {"355/113", "112", "333/106"}, {"355/113", "113", "355/113"}, {"355/113", "114", "355/113"}, {"-355/113", "10", "-22/7"}, {"-355/113", "112", "-333/106"},
		{"0", "1", "0"}, {"5", "1", "5"}, {"-5", nines(60), "-5"}, {"1/7", "7", "1/7"}, {"-1/7", "8", "-1/7"}, {"1/7", "6", "1/6"}, {"-1/7", "6", "-1/6"},
		// As near: the lesser bottom, then the lesser one.
		{"1/2", "1", "0"}, {"-1/2", "1", "-1"}, {"3/2", "1", "1"}, {"-3/2", "1", "-2"}, {"5/12", "3", "1/2"}, {"-5/12", "3", "-1/2"}, {"5/12", "4", "1/2"}, {"1/6", "3", "0"}, {"-1/6", "3", "0"}, {"5/6", "3", "1"}, {"-5/6", "3", "-1"}, {"1/4", "2", "0"}, {"3/4", "2", "1"}, {"-3/4", "2", "-1"},
		// Just between two neighbours: the sums of their tops and bottoms.
		{"2/5", "4", "1/3"}, {"3/5", "4", "2/3"}, {"3/8", "7", "2/5"}, {"5/13", "12", "3/8"}, {"8/21", "20", "5/13"}, {"8/21", "12", "3/8"}, {"1/3", "2", "1/2"}, {"2/3", "2", "1/2"},
		// Terms that are very great.
		{"1/" + one(196), "1", "0"}, {"1/" + one(196), nines(60), "0"}, {"-1/" + one(196), nines(60), "0"}, {one(99) + "/" + nines(99), nines(60), "1"},
		{one(99) + "/" + nines(98), nines(60), "10"}, {nines(99) + "/" + one(99), nines(60), "1"}, {"-" + nines(98) + "/" + one(99), "9", "-1/9"},
		{"1/" + one(60), nines(60), "1/" + nines(60)}, {"1/2" + strings.Repeat("0", 60), nines(60), "0"}, {"1/1" + nines(59), nines(60), "1/1" + nines(59)}, {"1/1" + nines(60), nines(60), "0"}, {"1/1" + nines(59) + "8", nines(60), "0"}, {"1/1" + nines(59) + "7", nines(60), "1/" + nines(60)},
	} {
		best(c.x, c.most).is(t, c.want)
	}
}

// All small numbers, against a look at every number with so small a bottom.
func TestBestOfAllSmallNumbers(t *testing.T) {
	t.Parallel()
	for bottom := int64(1); bottom <= 40; bottom++ {
		for top := -2 * bottom; top <= 2*bottom; top++ {
			x := big.NewRat(top, bottom)
			for most := int64(1); most <= 20; most++ {
				best(x.RatString(), fmt.Sprint(most)).is(t, modelBest(x, most).RatString())
			}
		}
	}
}

func TestBestOfDrawnNumbers(t *testing.T) {
	t.Parallel()
	d := &dice{state: 887}
	for range 300 {
		x := d.num(1+d.below(30), 1+d.below(30))
		for _, most := range []int{1, 2, 7, 30 + d.below(30), 200 + d.below(300)} {
			best(x, fmt.Sprint(most)).is(t, modelBest(ratOf(t, x), int64(most)).RatString())
		}
	}
}

// As near on both sides: just in the middle between two numbers whose cross products differ by one.
func TestBestOfMiddles(t *testing.T) {
	d := &dice{state: 907}
	half := big.NewRat(1, 2)
	for range 500 {
		l := []string{d.num(1+d.below(3), 0)}
		for range 1 + d.below(4) {
			l = append(l, fmt.Sprint(1+d.below(4)))
		}
		all, ok := impl.ConvergentsOf(l)
		if !ok {
			t.Fatal(l)
		}
		a, b := ratOf(t, all[len(all)-2]), ratOf(t, all[len(all)-1])
		middle := new(big.Rat).Add(a, b)
		middle.Mul(middle, half)
		most := max(a.Denom().Int64(), b.Denom().Int64())
		want := modelBest(middle, most)
		best(middle.RatString(), fmt.Sprint(most)).is(t, want.RatString())
		if want.Cmp(a) != 0 && want.Cmp(b) != 0 {
			t.Errorf("the middle of %s and %s: %s", a, b, want)
		}
	}
}

// holdsNearest asks that what is told has a neighbour on the other side of x that is not nearer, with no other number of
// so small a bottom between: their cross products differ by one, and their bottoms together go beyond most.
func holdsNearest(t *testing.T, x string, most string) {
	t.Helper()
	text, ok := impl.BestNum(x, most)
	what := fmt.Sprintf("BestNum(%q, %q): %q, %v", short(x), short(most), short(text), ok)
	if !ok || !impl.GoodNum(text) {
		t.Error(what)
		return
	}
	told, want, limit := ratOf(t, text), ratOf(t, x), bigOf(t, most)
	if want.Denom().Cmp(limit) <= 0 {
		if text != x {
			t.Error(what, "is not itself")
		}
		return
	}
	distance := new(big.Rat).Sub(want, told)
	if distance.Sign() == 0 || told.Denom().Cmp(limit) > 0 {
		t.Error(what, "has too great a bottom")
		return
	}
	other := otherSide(told, limit, distance.Sign())
	far := new(big.Rat).Sub(other, want)
	if far.Sign() != distance.Sign() {
		t.Error(what, "has another one between")
		return
	}
	switch far.Abs(far).Cmp(distance.Abs(distance)) {
	case -1:
		t.Error(what, "is further than", short(other.RatString()))
	case 0:
		if order := told.Denom().Cmp(other.Denom()); order > 0 || order == 0 && told.Cmp(other) > 0 {
			t.Error(what, "is as near as", short(other.RatString()))
		}
	}
}

// otherSide gives the number next to n, above it or below, among those with a bottom of at most most: top and bottom are
// found modulo those of n.
func otherSide(n *big.Rat, most *big.Int, side int) *big.Rat {
	// q with q top = -side modulo bottom, the greatest one that is at most most.
	bottom := n.Denom()
	q := new(big.Int).ModInverse(new(big.Int).Mod(n.Num(), bottom), bottom)
	if bottom.Cmp(big.NewInt(1)) == 0 {
		q = big.NewInt(0)
	}
	q.Mul(q, big.NewInt(int64(-side))).Mod(q, bottom)
	room := new(big.Int).Sub(most, q)
	q.Add(q, room.Div(room, bottom).Mul(room, bottom))
	p := new(big.Int).Mul(n.Num(), q)
	p.Add(p, big.NewInt(int64(side))).Div(p, bottom)
	return new(big.Rat).SetFrac(p, q)
}

func TestBestOfGreatNumbers(t *testing.T) {
	t.Parallel()
	d := &dice{state: 911}
	for n := range 1500 {
		x := d.num(1+d.below(99), 1+d.below(99))
		if n%3 == 0 { // great terms
			var l []string
			for range 2 + d.below(3) {
				l = append(l, "1"+d.nat(1+d.below(24)))
			}
			x, _ = impl.OfTerms(l)
		}
		most := d.nat(1 + d.below(60))
		if most == "0" {
			most = "1"
		}
		if len(x) <= 200 {
			holdsNearest(t, x, most)
		}
	}
}

// No number with so small a bottom that is drawn close by is nearer.
func TestBestIsNearest(t *testing.T) {
	d := &dice{state: 919}
	for range 300 {
		x, most := d.num(60, 60), "1"+d.nat(1+d.below(40))
		text, ok := impl.BestNum(x, most)
		if !ok {
			t.Errorf("BestNum(%q, %q)", x, most)
			continue
		}
		want := ratOf(t, x)
		least := new(big.Rat).Sub(ratOf(t, text), want)
		least.Abs(least)
		for range 20 {
			bottom := bigOf(t, d.nat(1+d.below(len(most)-1)))
			if bottom.Sign() == 0 {
				continue
			}
			down := new(big.Int).Mul(want.Num(), bottom)
			near := new(big.Rat).SetFrac(down.Div(down, want.Denom()), bottom)
			if near.Sub(near, want).Abs(near).Cmp(least) < 0 {
				t.Errorf("BestNum(%q, %q): %q, but by %s there is a nearer one", x, most, text, bottom)
			}
		}
	}
}

func TestBestLimits(t *testing.T) {
	for _, x := range []string{nines(200), "-" + nines(199), one(98) + "/" + nines(100), "-" + one(97) + "/" + nines(100), "1/" + nines(198), nines(198) + "/2", "-" + nines(197) + "/2"} {
		if len(x) != 200 {
			t.Errorf("%q has %d bytes", x, len(x))
		}
		for _, most := range []string{"1", "2", "7", one(30), one(59), nines(60)} {
			holdsNearest(t, x, most)
		}
		for _, most := range []string{"0", one(60), nines(61), nines(600), "", "01", "-1", "1/2", "x"} {
			best(x, most).isZero(t)
		}
	}
	for _, x := range []string{nines(201), "-" + nines(200), one(99) + "/" + nines(100), "-" + one(98) + "/" + nines(100), "1/" + nines(199), nines(199) + "/2", nines(600), "1/" + nines(600)} {
		for _, most := range []string{"1", "2", nines(60), "0", one(60)} {
			best(x, most).isZero(t)
		}
	}
	best("1/3", "0").isZero(t)
	best("0", "0").isZero(t)
	best("0", one(60)).isZero(t)
}

// Great terms and the longest ways down end at once.
func TestBestInGoodTime(t *testing.T) {
	inTime(t, 20*time.Second, func() {
		golden, longer := modelOfTerms(t, manyTerms(300)).RatString(), modelOfTerms(t, manyTerms(400)).RatString()
		for range 100 {
			holdsNearest(t, golden, nines(60))
			holdsNearest(t, longer, one(59))
			holdsNearest(t, "1/"+nines(198), nines(60))
			holdsNearest(t, nines(99)+"/"+one(99), one(59))
		}
	})
}
