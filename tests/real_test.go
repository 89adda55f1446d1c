package tests

import (
	"fmt"
	"math/big"
	"testing"

	"loop.example/g00201/impl"
)

func TestGoodReal(t *testing.T) {
	for _, c := range []struct {
		man, exp int
		want     bool
	}{
		// At the least Exp any Man, at others none below 2^52.
		{0, -150, true}, {1, -150, true}, {fullMan - 1, -150, true}, {fullMan, -150, true}, {lastMan, -150, true}, {lastMan + 1, -150, false},
		{0, -149, false}, {1, -149, false}, {fullMan - 1, -149, false}, {fullMan, -149, true}, {lastMan, -149, true}, {lastMan + 1, -149, false},
		{0, 0, false}, {1, 0, false}, {fullMan, 0, true}, {lastMan, 0, true}, {lastMan + 1, 0, false},
		{0, 150, false}, {fullMan - 1, 150, false}, {fullMan, 150, true}, {lastMan, 150, true}, {lastMan + 1, 150, false},
		// The infinite ones, and what is beyond.
		{0, 151, true}, {1, 151, false}, {fullMan, 151, false}, {lastMan, 151, false}, {-1, 151, false},
		{0, 152, false}, {fullMan, 152, false}, {0, -151, false}, {fullMan, -151, false}, {lastMan, -151, false},
		{-1, -150, false}, {-fullMan, -150, false}, {-fullMan, 0, false}, {-lastMan, 150, false},
	} {
		for _, r := range []impl.Real{fin(c.man, c.exp), below(fin(c.man, c.exp))} {
			if impl.GoodReal(r) != c.want {
				t.Errorf("GoodReal(%v): not %v", r, c.want)
			}
		}
	}
	if impl.GoodReal(impl.Real{}) {
		t.Error("the zero value is no real")
	}
	for _, r := range signedEdges() {
		if !impl.GoodReal(r) {
			t.Errorf("GoodReal(%v): false", r)
		}
	}
	for _, r := range wrongReals() {
		if impl.GoodReal(r) {
			t.Errorf("GoodReal(%v): true", r)
		}
	}
	if impl.RealBits != 53 || impl.MaxExp != 150 {
		t.Error("not the constants of the chapter")
	}
}

func TestNumOfReal(t *testing.T) {
	for _, c := range []struct {
		r    impl.Real
		want string
	}{
		{nought(), "0"}, {below(nought()), "0"}, {fin(fullMan, -52), "1"}, {below(fin(fullMan, -52)), "-1"}, {fin(fullMan, -53), "1/2"}, {below(fin(fullMan+fullMan/2, -53)), "-3/4"},
		{fin(fullMan, 0), "4503599627370496"}, {fin(lastMan, 0), "9007199254740991"}, {fin(fullMan+1, 1), "9007199254740994"}, {fin(fullMan+1, -1), "4503599627370497/2"}, {fin(7205759403792794, -56), "3602879701896397/36028797018963968"},
		{fin(1, -150), "1/" + new(big.Int).Lsh(big.NewInt(1), 150).String()}, {below(fin(3, -150)), "-3/" + new(big.Int).Lsh(big.NewInt(1), 150).String()}, {fin(6, -150), "3/" + new(big.Int).Lsh(big.NewInt(1), 149).String()},
		{fin(fullMan, -150), "1/" + new(big.Int).Lsh(big.NewInt(1), 98).String()}, {fin(lastMan, 150), new(big.Int).Lsh(big.NewInt(lastMan), 150).String()},
	} {
		got, ok := impl.NumOfReal(c.r)
		told(t, fmt.Sprintf("NumOfReal(%v)", c.r), got, ok, c.want)
	}
	d := &dice{state: 1009}
	all := signedEdges()
	for range 3000 {
		all = append(all, d.real())
	}
	for _, r := range all {
		got, ok := impl.NumOfReal(r)
		told(t, fmt.Sprintf("NumOfReal(%v)", r), got, ok, ratReal(r).RatString())
		// The number of a real comes back, but for the sign of 0.
		want := r
		want.Neg = r.Neg && r.Man > 0
		rounds(t, got, want)
	}
	for _, r := range []impl.Real{infinite(), below(infinite())} {
		got, ok := impl.NumOfReal(r)
		refused(t, fmt.Sprintf("NumOfReal(%v)", r), got, ok)
	}
}

// orders asks for the order of two reals, both ways round, and of what lies on the other side of 0.
func orders(t *testing.T, a impl.Real, b impl.Real, want int) {
	t.Helper()
	for _, c := range []struct {
		a, b impl.Real
		want int
	}{{a, b, want}, {b, a, -want}, {below(a), below(b), -want}, {below(b), below(a), want}, {a, a, 0}} {
		if got, ok := impl.CompareReal(c.a, c.b); got != c.want || !ok {
			t.Errorf("CompareReal(%v, %v): %d, %v; wanted %d, true", c.a, c.b, got, ok, c.want)
		}
	}
}

func TestCompareReal(t *testing.T) {
	least, most := fin(1, -150), fin(lastMan, 150)
	orders(t, nought(), below(nought()), 0)
	orders(t, nought(), least, -1)
	orders(t, below(nought()), least, -1)
	orders(t, nought(), below(least), 1)
	orders(t, below(least), least, -1)
	orders(t, most, infinite(), -1)
	orders(t, infinite(), infinite(), 0)
	orders(t, below(infinite()), infinite(), -1)
	orders(t, below(infinite()), below(most), -1)
	orders(t, infinite(), nought(), 1)
	orders(t, infinite(), below(nought()), 1)
	// The first Man of an Exp, and the last one of the Exp ahead.
	orders(t, fin(fullMan-1, -150), fin(fullMan, -150), -1)
	orders(t, fin(lastMan, -150), fin(fullMan, -149), -1)
	orders(t, fin(lastMan, -1), fin(fullMan, 0), -1)
	orders(t, fin(lastMan, 149), fin(fullMan, 150), -1)
	for _, r := range signedEdges() {
		orders(t, r, infinite(), -1)
		orders(t, r, below(infinite()), 1)
	}
	all, d := signedEdges(), &dice{state: 1013}
	for range 60 {
		all = append(all, d.real())
	}
	for n, a := range all {
		x := ratReal(a)
		for _, b := range all[n:] {
			orders(t, a, b, x.Cmp(ratReal(b)))
		}
	}
}

// goesTo asks for the next real.
func goesTo(t *testing.T, r impl.Real, want impl.Real) {
	t.Helper()
	next, ok := impl.NextReal(r)
	isReal(t, fmt.Sprintf("NextReal(%v)", r), next, ok, want)
}

func TestNextRealByHand(t *testing.T) {
	for _, c := range []struct{ r, want impl.Real }{
		// Across 0; the number of 0 with Neg is 0, too.
		{nought(), fin(1, -150)}, {below(nought()), fin(1, -150)}, {below(fin(1, -150)), nought()}, {below(fin(2, -150)), below(fin(1, -150))}, {fin(1, -150), fin(2, -150)},
		// From 2^52 - 1 to 2^52 nothing changes but Man; from 2^53 - 1 on there is a new Exp.
		{fin(fullMan-1, -150), fin(fullMan, -150)}, {below(fin(fullMan, -150)), below(fin(fullMan-1, -150))},
		{fin(lastMan, -150), fin(fullMan, -149)}, {below(fin(fullMan, -149)), below(fin(lastMan, -150))}, {fin(lastMan, -53), fin(fullMan, -52)}, {below(fin(fullMan, -52)), below(fin(lastMan, -53))},
		{fin(lastMan, -1), fin(fullMan, 0)}, {below(fin(fullMan, 0)), below(fin(lastMan, -1))}, {fin(lastMan, 149), fin(fullMan, 150)}, {below(fin(fullMan, 150)), below(fin(lastMan, 149))},
		{fin(fullMan, -52), fin(fullMan+1, -52)}, {below(fin(fullMan+1, -52)), below(fin(fullMan, -52))}, {fin(lastMan-1, 150), fin(lastMan, 150)}, {below(fin(lastMan, 150)), below(fin(lastMan-1, 150))},
	} {
		goesTo(t, c.r, c.want)
	}
	for _, r := range []impl.Real{fin(lastMan, 150), infinite(), below(infinite())} {
		next, ok := impl.NextReal(r)
		noReal(t, fmt.Sprintf("NextReal(%v)", r), next, ok)
	}
}

// The next real is greater, and a number between both comes to one of them.
func TestNextRealOfDrawnReals(t *testing.T) {
	d := &dice{state: 1019}
	all := signedEdges()
	for range 2000 {
		all = append(all, d.real())
	}
	for _, r := range all {
		if r == fin(lastMan, 150) {
			continue
		}
		next, ok := impl.NextReal(r)
		if !ok || !impl.GoodReal(next) || next == infinite() {
			t.Errorf("NextReal(%v): %v, %v", r, next, ok)
			continue
		}
		a, b := ratReal(r), ratReal(next)
		if a.Cmp(b) >= 0 {
			t.Errorf("NextReal(%v): %v is not greater", r, next)
		}
		if r.Man > 0 {
			down, up := neighbours(fin(r.Man, r.Exp))
			if !r.Neg && b.Cmp(up) != 0 || r.Neg && b.Cmp(down.Neg(down)) != 0 {
				t.Errorf("NextReal(%v): %v", r, next)
			}
			// Back from the other side of 0.
			if next.Man > 0 {
				goesTo(t, below(next), below(r))
			}
		}
		between, _ := impl.RealOfNum(middle(a, b).RatString())
		if x := ratReal(between); x.Cmp(a) != 0 && x.Cmp(b) != 0 {
			t.Errorf("%v comes between %v and %v", between, r, next)
		}
	}
}
