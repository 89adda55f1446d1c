package tests

import (
	"fmt"
	"math"
	"math/big"
	"slices"
	"strings"
	"testing"

	"loop.example/g00201/impl"
)

// holdsRounded asks that no finite real is nearer to a number than what is told, and of two as near that with an even
// Man; and that it is infinite just where the middle to what would be next is not below it.
func holdsRounded(t *testing.T, x string) {
	t.Helper()
	r, ok := impl.RealOfNum(x)
	what := fmt.Sprintf("RealOfNum(%q): %v, %v", short(x), r, ok)
	if !ok || !impl.GoodReal(r) || r.Neg != strings.HasPrefix(x, "-") {
		t.Error(what)
		return
	}
	size := ratOf(t, x)
	size.Abs(size)
	r.Neg = false
	if limit := times2(2*lastMan+1, 149); r == infinite() || size.Cmp(limit) >= 0 {
		if r != infinite() || size.Cmp(limit) < 0 {
			t.Error(what, "is infinite, or not")
		}
		return
	}
	way := far(size, ratReal(r))
	down, up := neighbours(r)
	for _, other := range []*big.Rat{down, up} {
		if order := way.Cmp(far(size, other)); other.Sign() >= 0 && (order > 0 || order == 0 && r.Man%2 == 1) {
			t.Error(what, "is no nearer than", short(other.RatString()))
		}
	}
}

func TestRoundByHand(t *testing.T) {
	one := fin(fullMan, -52)
	for _, c := range []struct {
		x    string
		want impl.Real
	}{
		{"0", nought()}, {"1", one}, {"-1", below(one)}, {"1/2", fin(fullMan, -53)}, {"-3/4", below(fin(fullMan+fullMan/2, -53))}, {"3", fin(fullMan+fullMan/2, -51)},
		{"1/10", fin(7205759403792794, -56)}, {"1/5", fin(7205759403792794, -55)}, {"3/10", fin(5404319552844595, -54)}, {"1/3", fin(6004799503160661, -54)}, {"-2/3", below(fin(6004799503160661, -53))},
		{"4503599627370495", fin(lastMan-1, -1)}, {"4503599627370496", fin(fullMan, 0)}, {"4503599627370497", fin(fullMan+1, 0)}, {"9007199254740991", fin(lastMan, 0)}, {"9007199254740992", fin(fullMan, 1)},
		// Just between two reals: the even one; with one more bit the next one.
		{"9007199254740993", fin(fullMan, 1)}, {"9007199254740994", fin(fullMan+1, 1)}, {"9007199254740995", fin(fullMan+2, 1)}, {"9007199254740997", fin(fullMan+2, 1)}, {"-9007199254740993", below(fin(fullMan, 1))}, {"-9007199254740995", below(fin(fullMan+2, 1))},
		{"18014398509481986", fin(fullMan, 2)}, {"18014398509481987", fin(fullMan+1, 2)}, {"18014398509481985", fin(fullMan, 2)}, {"18014398509481990", fin(fullMan+2, 2)}, {"18014398509481989", fin(fullMan+1, 2)},
		{"18014398509481983", fin(fullMan, 2)}, {"18014398509481982", fin(lastMan, 1)}, {"18014398509481981", fin(lastMan-1, 1)}, {"18014398509481979", fin(lastMan-1, 1)},
		// Below a power of 2 the middle is at half as far: 2^53 - 1/2 is even at 2^53.
		{"18014398509481983/2", fin(fullMan, 1)}, {"9007199254740991/2", fin(lastMan, -1)}, {"18014398509481981/2", fin(lastMan-1, 0)}, {"18014398509481979/2", fin(lastMan-1, 0)},
	} {
		rounds(t, c.x, c.want)
	}
	for n := range 3000 {
		r, _ := impl.RealOfNum(fmt.Sprint(n))
		if ratReal(r).Cmp(big.NewRat(int64(n), 1)) != 0 {
			t.Errorf("%d comes to %v", n, r)
		}
	}
}

// Just between each two reals the even one is told, and the least bit above and below that the other one, or not.
func TestRoundOfMiddles(t *testing.T) {
	all, d := realEdges(), &dice{state: 1021}
	for range 300 {
		all = append(all, d.above())
	}
	little := new(big.Rat).SetFrac(big.NewInt(1), tens(90))
	for _, r := range all {
		_, up := neighbours(r)
		next, ok := impl.NextReal(r)
		if !ok {
			next = infinite()
		}
		half := middle(ratReal(r), up)
		even := r
		if r.Man%2 == 1 {
			even = next
		}
		for _, c := range []struct {
			x    *big.Rat
			want impl.Real
		}{{half, even}, {new(big.Rat).Sub(half, little), r}, {new(big.Rat).Add(half, little), next}} {
			rounds(t, c.x.RatString(), c.want)
			rounds(t, new(big.Rat).Neg(c.x).RatString(), below(c.want))
			holdsRounded(t, c.x.RatString())
		}
	}
}

// From half a step behind the greatest real on, up to whatever, it is infinite.
func TestRoundToInfinite(t *testing.T) {
	most := fin(lastMan, 150)
	half := new(big.Int).Lsh(big.NewInt(2*lastMan+1), 149)
	unit, little := big.NewInt(1), new(big.Rat).SetFrac(big.NewInt(1), tens(80))
	for _, c := range []struct {
		x    string
		want impl.Real
	}{
		{new(big.Int).Sub(half, unit).String(), most}, {half.String(), infinite()}, {new(big.Int).Add(half, unit).String(), infinite()},
		{new(big.Rat).Sub(new(big.Rat).SetInt(half), little).RatString(), most}, {new(big.Rat).Add(new(big.Rat).SetInt(half), little).RatString(), infinite()},
		{ratReal(most).RatString(), most}, {times2(lastMan-1, 150).RatString(), fin(lastMan-1, 150)}, {times2(2*lastMan-1, 149).RatString(), fin(lastMan-1, 150)},
		{times2(fullMan, 151).RatString(), infinite()}, {times2(lastMan, 151).RatString(), infinite()}, {times2(1, 204).RatString(), infinite()}, {times2(1, 203).RatString(), infinite()}, {times2(1, 202).RatString(), fin(fullMan, 150)},
		{one(61), fin(7006492321624085, 150)}, {nines(62), infinite()}, {nines(300), infinite()}, {nines(298) + "/2", infinite()}, {"1" + strings.Repeat("0", 299), infinite()},
	} {
		rounds(t, c.x, c.want)
		if len(c.x) < 300 {
			rounds(t, "-"+c.x, below(c.want))
		}
	}
}

// At the other end there are the least reals, and 0, with the sign of what came to it.
func TestRoundToNought(t *testing.T) {
	least := fin(1, -150)
	little := new(big.Rat).SetFrac(big.NewInt(1), tens(100))
	half := times2(1, -151)
	for _, c := range []struct {
		x    *big.Rat
		want impl.Real
	}{
		{half, nought()}, {new(big.Rat).Sub(half, little), nought()}, {new(big.Rat).Add(half, little), least}, {times2(1, -150), least}, {times2(1, -152), nought()}, {times2(3, -152), least},
		{times2(3, -151), fin(2, -150)}, {times2(5, -151), fin(2, -150)}, {times2(7, -151), fin(4, -150)}, {times2(11, -152), fin(3, -150)}, {times2(9, -152), fin(2, -150)},
		{times2(fullMan-1, -150), fin(fullMan-1, -150)}, {times2(2*fullMan-1, -151), fin(fullMan, -150)}, {times2(2*fullMan-3, -151), fin(fullMan-2, -150)}, {times2(2*fullMan+1, -151), fin(fullMan, -150)}, {times2(2*fullMan+3, -151), fin(fullMan+2, -150)},
		{times2(2*lastMan+1, -151), fin(fullMan, -149)}, {times2(2*lastMan-1, -151), fin(lastMan-1, -150)}, {big.NewRat(1, 3), fin(6004799503160661, -54)},
	} {
		rounds(t, c.x.RatString(), c.want)
		rounds(t, new(big.Rat).Neg(c.x).RatString(), below(c.want))
		holdsRounded(t, c.x.RatString())
	}
	for _, x := range []string{"1/" + nines(298), "1/" + one(297), "7/2" + strings.Repeat("0", 46), "1/" + one(46)} {
		rounds(t, x, nought())
		if len(x) < 300 {
			rounds(t, "-"+x, below(nought()))
		}
	}
	rounds(t, "-1/"+nines(297), below(nought()))
	rounds(t, "7/"+one(46), least)
	rounds(t, "-9/"+one(46), below(least))
}

func TestRoundLimits(t *testing.T) {
	thirds := strings.Repeat("3", 148)
	for _, x := range []string{nines(300), "-" + nines(299), one(299), nines(149) + "/" + one(149), "-" + nines(148) + "/" + one(149), "1/" + nines(298), "-1/" + nines(297), nines(298) + "/2", nines(250) + "/" + one(48), one(48) + "/" + nines(250), "1" + thirds + "/" + one(149), nines(240) + "/" + one(58), "1" + strings.Repeat("0", 57) + "/" + nines(241)} {
		if len(x) != 300 {
			t.Errorf("%q has %d bytes", short(x), len(x))
		}
		holdsRounded(t, x)
		rounds(t, x, modelReal(ratOf(t, x), false))
	}
	for _, x := range []string{nines(301), "-" + nines(300), one(300), nines(150) + "/" + one(149), "-" + nines(149) + "/" + one(149), "1/" + nines(299), nines(299) + "/2", nines(600), "1/" + nines(600), nines(600) + "/" + one(599)} {
		r, ok := impl.RealOfNum(x)
		if !impl.GoodNum(x) {
			t.Errorf("%q is no number", short(x))
		}
		noReal(t, fmt.Sprintf("RealOfNum(%q)", short(x)), r, ok)
	}
}

// drawnNums are numbers with whole parts and bottoms of all lengths, most of them within what reals have.
func drawnNums(d *dice, many int) []string {
	var out []string
	for len(out) < many {
		x := d.num(1+d.below(299), 0)
		switch d.below(4) {
		case 0:
			x = d.num(1+d.below(149), 1+d.below(149))
		case 1:
			x = d.num(1+d.below(60), 0)
		case 2:
			long := 1 + d.below(140)
			x = d.num(long, min(max(long-30+d.below(60), 1), 149))
		}
		if len(x) <= 300 {
			out = append(out, x)
		}
	}
	return out
}

func TestRoundOfDrawnNumbers(t *testing.T) {
	t.Parallel()
	d := &dice{state: 1031}
	finite := 0
	for _, x := range drawnNums(d, 6000) {
		holdsRounded(t, x)
		want := modelReal(ratOf(t, x), false)
		rounds(t, x, want)
		if want.Man > 0 {
			finite++
		}
	}
	if finite < 2500 {
		t.Errorf("only %d finite ones", finite)
	}
}

// Powers of 2 and what is very close to them, where a guess by floats is not sure.
func TestRoundNearPowers(t *testing.T) {
	t.Parallel()
	for exp := -155; exp <= 206; exp++ {
		power := times2(1, exp)
		for _, digits := range []int{12, 15, 17, 18, 19, 30, 60, 100} {
			little := new(big.Rat).Mul(power, new(big.Rat).SetFrac(big.NewInt(1), tens(digits)))
			for _, x := range []*big.Rat{power, new(big.Rat).Add(power, little), new(big.Rat).Sub(power, little)} {
				if text := x.RatString(); len(text) <= 300 {
					rounds(t, text, modelReal(x, false))
				}
			}
		}
	}
}

// The language's own floats are rounded likewise, where they have as many bits.
func TestRoundIsTheFloats(t *testing.T) {
	d := &dice{state: 1033}
	for range 4000 {
		a, b := 1+d.wide()>>(7+d.below(50)), 1+d.wide()>>(7+d.below(50))
		x := big.NewRat(int64(a), int64(b))
		man, exp := math.Frexp(float64(a) / float64(b))
		rounds(t, x.RatString(), fin(int(man*(1<<53)), exp-53))
	}
}

// Of two numbers the lesser one does not come to a greater real.
func TestRoundKeepsTheOrder(t *testing.T) {
	d := &dice{state: 1039}
	all := drawnNums(d, 500)
	for _, x := range drawnNums(d, 60) { // and some that are very close
		n := ratOf(t, x)
		for digits := range 25 {
			more := new(big.Rat).SetFrac(new(big.Int).Add(tens(digits), big.NewInt(1)), tens(digits))
			if text := more.Mul(more, n).RatString(); len(text) <= 300 {
				all = append(all, text)
			}
		}
	}
	slices.SortFunc(all, func(a string, b string) int { return ratOf(t, a).Cmp(ratOf(t, b)) })
	for at, x := range all[1:] {
		a, okA := impl.RealOfNum(all[at])
		b, okB := impl.RealOfNum(x)
		if order, ok := impl.CompareReal(a, b); !okA || !okB || !ok || order > 0 {
			t.Errorf("%q is less than %q, but %v is not below %v", short(all[at]), short(x), a, b)
		}
	}
}
