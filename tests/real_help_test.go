package tests

import (
	"fmt"
	"math/big"
	"strings"
	"testing"

	"loop.example/g00201/impl"
)

const (
	fullMan = 1 << 52
	lastMan = 1<<53 - 1
)

func fin(man int, exp int) impl.Real { return impl.Real{Man: man, Exp: exp} }

func below(r impl.Real) impl.Real { return impl.Real{Neg: !r.Neg, Man: r.Man, Exp: r.Exp} }

func nought() impl.Real { return impl.Real{Exp: -impl.MaxExp} }

func infinite() impl.Real { return impl.Real{Exp: impl.MaxExp + 1} }

// realEdges are finite reals above 0 at which something changes.
func realEdges() []impl.Real {
	var out []impl.Real
	for _, man := range []int{1, 2, 3, 4, 5, 7, 10, 14, 1000, fullMan / 2, fullMan/2 + 1, fullMan - 2, fullMan - 1} {
		out = append(out, fin(man, -150))
	}
	for _, exp := range []int{-150, -149, -148, -100, -99, -98, -57, -53, -52, -51, -49, -1, 0, 1, 2, 47, 98, 148, 149, 150} {
		for _, man := range []int{fullMan, fullMan + 1, fullMan + 2, fullMan + fullMan/2, lastMan - 1, lastMan} {
			out = append(out, fin(man, exp))
		}
	}
	return out
}

// signedEdges are the edges with both signs, and both zeros.
func signedEdges() []impl.Real {
	out := []impl.Real{nought(), below(nought())}
	for _, r := range realEdges() {
		out = append(out, r, below(r))
	}
	return out
}

// wrongReals are reals that are none.
func wrongReals() []impl.Real {
	const least, most = -1 << 63, 1<<63 - 1
	var out []impl.Real
	add := func(man int, exp int) { out = append(out, fin(man, exp), below(fin(man, exp))) }
	for _, exp := range []int{-150, -149, -1, 0, 1, 150, 151} {
		for _, man := range []int{-1, -fullMan, -lastMan, least, least + 1, most, lastMan + 1, 1 << 54, 1 << 62} {
			add(man, exp)
		}
	}
	for _, exp := range []int{-149, -148, -1, 0, 1, 149, 150} {
		for _, man := range []int{0, 1, fullMan - 1} {
			add(man, exp)
		}
	}
	for _, man := range []int{1, fullMan - 1, fullMan, lastMan} {
		add(man, 151)
	}
	for _, exp := range []int{-151, -152, 152, 153, 300, -1 << 32, 1 << 32, least, least + 1, least + 150, most, most - 1, most - 150, 1<<32 - 150, 1<<32 + 151} {
		for _, man := range []int{0, 1, fullMan, lastMan, lastMan + 1, least, most} {
			add(man, exp)
		}
	}
	return out
}

// wide draws 60 bits.
func (d *dice) wide() int { return d.below(1<<30)<<30 | d.below(1<<30) }

// real draws a finite real: of any Exp, of those around 1, of the least ones, and edges.
func (d *dice) real() impl.Real {
	r := fin(fullMan+d.wide()%fullMan, d.below(301)-150)
	switch d.below(6) {
	case 0:
		r.Exp = d.below(12) - 58
	case 1:
		r = fin(d.wide()%(1<<(1+d.below(53))), -150)
	case 2: // few bits
		r.Man = (1<<(1+d.below(20)) | d.below(1<<20)) << 33
		for r.Man > lastMan {
			r.Man >>= 1
		}
		r.Man |= fullMan
	case 3:
		all := realEdges()
		r = all[d.below(len(all))]
	}
	r.Neg = d.below(2) == 0
	return r
}

// above draws a finite real above 0.
func (d *dice) above() impl.Real {
	r := d.real()
	r.Neg = false
	if r.Man == 0 {
		r.Man = 1
	}
	return r
}

// times2 is a number times 2 to a power.
func times2(man int64, exp int) *big.Rat {
	out := new(big.Rat).SetInt64(man)
	two := new(big.Int).Lsh(big.NewInt(1), uint(max(exp, -exp)))
	if exp < 0 {
		return out.Quo(out, new(big.Rat).SetInt(two))
	}
	return out.Mul(out, new(big.Rat).SetInt(two))
}

// ratReal is the number of a finite real.
func ratReal(r impl.Real) *big.Rat {
	if r.Neg {
		return times2(-int64(r.Man), r.Exp)
	}
	return times2(int64(r.Man), r.Exp)
}

// neighbours are the numbers of the next reals below and above a finite one above 0; behind the greatest that which
// would be next.
func neighbours(r impl.Real) (*big.Rat, *big.Rat) {
	if r.Man == fullMan && r.Exp > -impl.MaxExp {
		return times2(lastMan, r.Exp-1), times2(fullMan+1, r.Exp)
	}
	return times2(int64(r.Man)-1, r.Exp), times2(int64(r.Man)+1, r.Exp)
}

func middle(a *big.Rat, b *big.Rat) *big.Rat {
	sum := new(big.Rat).Add(a, b)
	return sum.Mul(sum, big.NewRat(1, 2))
}

// far is how far two numbers are from each other.
func far(a *big.Rat, b *big.Rat) *big.Rat {
	way := new(big.Rat).Sub(a, b)
	return way.Abs(way)
}

// modelReal rounds a number: with the least Exp at which no more than 53 bits stand ahead of the point.
func modelReal(x *big.Rat, negNought bool) impl.Real {
	if x.Sign() == 0 {
		return impl.Real{Neg: negNought, Exp: -150}
	}
	r := impl.Real{Neg: x.Sign() < 0}
	top, bottom := new(big.Int).Abs(x.Num()), x.Denom()
	for r.Exp = max(-150, top.BitLen()-bottom.BitLen()-55); ; r.Exp++ {
		over, under := new(big.Int).Lsh(top, uint(max(-r.Exp, 0))), new(big.Int).Lsh(bottom, uint(max(r.Exp, 0)))
		many, left := over.QuoRem(over, under, new(big.Int))
		if many.BitLen() > 53 {
			continue
		}
		r.Man = int(many.Int64())
		if order := left.Lsh(left, 1).Cmp(under); order > 0 || order == 0 && r.Man%2 == 1 {
			r.Man++
		}
		if r.Man > lastMan {
			r.Man, r.Exp = fullMan, r.Exp+1
		}
		if r.Exp > 150 {
			r.Man, r.Exp = 0, 151
		}
		return r
	}
}

// decimal is the number of digits behind a point, times 10 to the power of n.
func decimal(t *testing.T, digits string, n int) *big.Rat {
	t.Helper()
	top, power := bigOf(t, digits), n-len(digits)
	if power >= 0 {
		return new(big.Rat).SetInt(top.Mul(top, tens(power)))
	}
	return new(big.Rat).SetFrac(top, tens(-power))
}

// modelShortest looks at all numbers of k digits around a real above 0, for k from 1 on.
func modelShortest(t *testing.T, r impl.Real) (string, int) {
	t.Helper()
	v := ratReal(r)
	n := len(v.Num().String()) - len(v.Denom().String()) - 1
	for v.Cmp(decimal(t, "1", n+1)) >= 0 {
		n++
	}
	for k := 1; ; k++ {
		var best *big.Rat
		for _, point := range []int{n - 1, n, n + 1} {
			// How often the last place of k digits is in the number, and some more and less.
			step := decimal(t, "1", point-k+1)
			many := new(big.Rat).Quo(v, step)
			down := new(big.Int).Quo(many.Num(), many.Denom())
			for more := int64(-2); more <= 2; more++ {
				count := new(big.Int).Add(down, big.NewInt(more))
				if count.Sign() <= 0 || len(strings.TrimRight(count.String(), "0")) > k {
					continue
				}
				x := new(big.Rat).Mul(new(big.Rat).SetInt(count), step)
				if modelReal(x, false) != r {
					continue
				}
				if best == nil || far(x, v).Cmp(far(best, v)) < 0 || far(x, v).Cmp(far(best, v)) == 0 && x.Cmp(best) < 0 {
					best = x
				}
			}
		}
		if best != nil {
			return digitsOf(best)
		}
	}
}

// digitsOf gives the digits of a number that has an end of them, and where its point is.
func digitsOf(x *big.Rat) (string, int) {
	const places = 250
	all := new(big.Rat).Mul(x, new(big.Rat).SetInt(tens(places))).Num().String()
	return strings.TrimRight(all, "0"), len(all) - places
}

// modelText is the text of a good real by its shortest digits.
func modelText(t *testing.T, r impl.Real) string {
	t.Helper()
	sign := ""
	if r.Neg {
		sign, r.Neg = "-", false
	}
	switch r {
	case infinite():
		return sign + "inf"
	case nought():
		return sign + "0"
	}
	digits, n := modelShortest(t, r)
	text := sign + digits[:1]
	if len(digits) > 1 {
		text += "." + digits[1:]
	}
	if n != 1 {
		text += fmt.Sprintf("e%d", n-1)
	}
	return text
}

// isReal asks for a real beside true.
func isReal(t *testing.T, what string, got impl.Real, ok bool, want impl.Real) {
	t.Helper()
	if got != want || !ok {
		t.Errorf("%s: %v, %v; wanted %v, true", what, got, ok, want)
	}
}

// noReal asks for the zero answer.
func noReal(t *testing.T, what string, got impl.Real, ok bool) {
	t.Helper()
	if got != (impl.Real{}) || ok {
		t.Errorf("%s: %v, %v; wanted the zero answer", what, got, ok)
	}
}

// rounds asks for what RealOfNum tells of a number.
func rounds(t *testing.T, x string, want impl.Real) {
	t.Helper()
	r, ok := impl.RealOfNum(x)
	isReal(t, fmt.Sprintf("RealOfNum(%q)", short(x)), r, ok, want)
}

// reads asks for what ReadReal tells of a text.
func reads(t *testing.T, s string, want impl.Real) {
	t.Helper()
	r, ok := impl.ReadReal(s)
	isReal(t, fmt.Sprintf("ReadReal(%q)", short(s)), r, ok, want)
}

// shortens asks for the shortest digits of a real.
func shortens(t *testing.T, r impl.Real, digits string, n int) {
	t.Helper()
	got, point, ok := impl.ShortestReal(r)
	if got != digits || point != n || !ok {
		t.Errorf("ShortestReal(%v): %q, %d, %v; wanted %q, %d, true", r, got, point, ok, digits, n)
	}
}
