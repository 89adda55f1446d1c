package tests

import (
	"fmt"
	"math/big"
	"strconv"
	"strings"
	"testing"

	"loop.example/g00201/impl"
)

func TestShortestByHand(t *testing.T) {
	for _, c := range []struct {
		r      impl.Real
		digits string
		n      int
	}{
		{fin(fullMan, -52), "1", 1}, {fin(fullMan, -51), "2", 1}, {fin(fullMan, -53), "5", 0}, {fin(fullMan, -54), "25", 0}, {fin(5<<50, -49), "1", 2}, {fin(fullMan+fullMan/2, -51), "3", 1}, {fin(7205759403792794, -56), "1", 0}, {fin(7205759403792794, -55), "2", 0},
		// 17 digits: the sum of 0.1 and 0.2, the next one above 1, and 2^53 - 1 by 2^53.
		{fin(5404319552844596, -54), "30000000000000004", 0}, {fin(fullMan+1, -52), "10000000000000002", 1}, {fin(lastMan, -53), "9999999999999999", 0}, {fin(6004799503160661, -54), "3333333333333333", 0}, {fin(6004799503160661, -53), "6666666666666666", 0},
		{fin(lastMan, 0), "9007199254740991", 16}, {fin(fullMan, 1), "9007199254740992", 16}, {fin(fullMan+1, 1), "9007199254740994", 16}, {fin(lastMan, 1), "18014398509481982", 17}, {fin(fullMan, 2), "18014398509481984", 17},
		// Powers of 2: below them it is nearer.
		{fin(fullMan, 0), "4503599627370496", 16}, {fin(fullMan, 10), "4611686018427388", 19}, {fin(fullMan, 50), "5070602400912918", 31}, {fin(fullMan, 150), "6427752177035961", 61}, {fin(fullMan, -98), "14210854715202004", -13}, {fin(fullMan, -149), "6310887241768095", -29},
		// At the least Exp the next one below is as far as that above, so fewer digits come back.
		{fin(fullMan, -150), "3155443620884047", -29},
		// The least ones have few digits.
		{fin(1, -150), "7", -45}, {fin(2, -150), "14", -44}, {fin(3, -150), "2", -44}, {fin(4, -150), "3", -44}, {fin(5, -150), "35", -44}, {fin(6, -150), "4", -44}, {fin(7, -150), "5", -44}, {fin(8, -150), "56", -44}, {fin(9, -150), "6", -44}, {fin(10, -150), "7", -44}, {fin(13, -150), "9", -44}, {fin(14, -150), "1", -43}, {fin(143, -150), "1", -42},
		{fin(fullMan-1, -150), "31554436208840465", -29}, {fin(fullMan+1, -150), "3155443620884048", -29},
		// The greatest ones.
		{fin(lastMan, 150), "12855504354071921", 62}, {fin(lastMan-1, 150), "1285550435407192", 62}, {fin(fullMan+1, 150), "6427752177035963", 61},
	} {
		shortens(t, c.r, c.digits, c.n)
		shortens(t, below(c.r), c.digits, c.n)
		digits, n := modelShortest(t, c.r)
		if digits != c.digits || n != c.n {
			t.Errorf("the model says %q, %d of %v", digits, n, c.r)
		}
	}
	for _, r := range []impl.Real{nought(), below(nought()), infinite(), below(infinite())} {
		digits, n, ok := impl.ShortestReal(r)
		called(fmt.Sprintf("ShortestReal(%v)", r), ok, digits, n).isZero(t)
	}
}

// holdsShortest asks that the digits come back, that no fewer do, and no nearer ones of as many.
func holdsShortest(t *testing.T, r impl.Real) {
	t.Helper()
	digits, n, ok := impl.ShortestReal(r)
	what := fmt.Sprintf("ShortestReal(%v): %q, %d, %v", r, digits, n, ok)
	if !ok || !impl.GoodNat(digits) || strings.HasSuffix(digits, "0") || len(digits) > 17 {
		t.Error(what)
		return
	}
	r.Neg = false
	v, x := ratReal(r), decimal(t, digits, n)
	rounds(t, x.RatString(), r)
	if len(digits) > 1 {
		fewer := digits[:len(digits)-1]
		more := bigOf(t, fewer)
		more.Add(more, big.NewInt(1))
		for _, other := range []*big.Rat{decimal(t, fewer, n), decimal(t, more.String(), n+len(more.String())-len(fewer))} {
			if back, _ := impl.RealOfNum(other.RatString()); back == r {
				t.Error(what, "but with fewer digits it is", other.RatString())
			}
		}
	}
	step := decimal(t, "1", n-len(digits)+1)
	for _, other := range []*big.Rat{new(big.Rat).Sub(x, step), new(big.Rat).Add(x, step)} {
		order := far(other, v).Cmp(far(x, v))
		if order > 0 || order == 0 && other.Cmp(x) > 0 {
			continue
		}
		if back, _ := impl.RealOfNum(other.RatString()); back == r {
			t.Error(what, "but nearer is", other.RatString())
		}
	}
}

func TestShortestOfEdges(t *testing.T) {
	t.Parallel()
	for _, r := range realEdges() {
		holdsShortest(t, r)
		digits, n := modelShortest(t, r)
		shortens(t, r, digits, n)
	}
	for man := 1; man <= 400; man++ {
		holdsShortest(t, fin(man, -150))
		digits, n := modelShortest(t, fin(man, -150))
		shortens(t, fin(man, -150), digits, n)
	}
}

// Powers of 2 with any Exp, and the reals beside them.
func TestShortestOfPowers(t *testing.T) {
	t.Parallel()
	for exp := -150; exp <= 150; exp++ {
		for _, man := range []int{fullMan, fullMan + 1, lastMan} {
			holdsShortest(t, fin(man, exp))
		}
		digits, n := modelShortest(t, fin(fullMan, exp))
		shortens(t, fin(fullMan, exp), digits, n)
	}
	for bit := range 52 {
		holdsShortest(t, fin(1<<bit, -150))
		holdsShortest(t, fin(1<<bit+1, -150))
	}
	// Powers of 10, where a guess of the point by floats is not sure.
	for power := -44; power <= 61; power++ {
		r, ok := impl.ReadReal(fmt.Sprintf("1e%d", power))
		if !ok {
			t.Fatal(power)
		}
		shortens(t, r, "1", power+1)
		next, _ := impl.NextReal(r)
		holdsShortest(t, next)
		before, _ := impl.NextReal(below(r))
		holdsShortest(t, below(before))
	}
}

func TestShortestOfDrawnReals(t *testing.T) {
	t.Parallel()
	d := &dice{state: 1087}
	long := 0
	for range 2500 {
		r := d.above()
		holdsShortest(t, r)
		if digits, _, _ := impl.ShortestReal(r); len(digits) == 17 {
			long++
		}
	}
	for range 400 {
		r := d.above()
		digits, n := modelShortest(t, r)
		shortens(t, r, digits, n)
	}
	if long < 300 {
		t.Errorf("only %d have 17 digits", long)
	}
}

// Numbers of few digits have just these, if a real has as many bits as others.
func TestShortestOfFewDigits(t *testing.T) {
	d := &dice{state: 1091}
	for range 1500 {
		digits := strings.TrimRight(d.nat(1+d.below(15)), "0")
		if digits == "" {
			continue
		}
		n := d.below(85) - 27
		r, ok := impl.ReadReal(fmt.Sprintf("%s.%se%d", digits[:1], digits[1:]+"0", n-1))
		if !ok {
			t.Errorf("%s with the point %d is not read", digits, n)
			continue
		}
		shortens(t, r, digits, n)
	}
}

// The language's own floats have as many digits, where they have as many bits; which ones, the chapter says.
func TestShortestIsTheFloats(t *testing.T) {
	d := &dice{state: 1093}
	for range 1500 {
		r := fin(fullMan+d.wide()%fullMan, d.below(300)-149)
		digits, n, _ := impl.ShortestReal(r)
		text := strconv.FormatFloat(asFloat(r), 'e', -1, 64)
		man, exp, _ := strings.Cut(strings.Replace(text, ".", "", 1), "e")
		power, _ := strconv.Atoi(exp)
		if len(man) != len(digits) || power != n-1 {
			t.Errorf("ShortestReal(%v): %q, %d; the float is %s", r, digits, n, text)
		}
	}
}

// Where two of the shortest ones are as near the lesser one is told: the number has one digit more, a 5.
func TestShortestOfTwoAsNear(t *testing.T) {
	d := &dice{state: 1097}
	two := 0
	for range 4000 {
		r := fin((fullMan/16+d.wide()%(fullMan/16))*16, d.below(8)-12)
		all, n := digitsOf(ratReal(r))
		digits, point, ok := impl.ShortestReal(r)
		if last := len(all) - 1; len(digits) == last {
			two++
			if digits != all[:last] || point != n || !ok {
				t.Errorf("ShortestReal(%v): %q, %d of %q, %d", r, digits, point, all, n)
			}
		}
	}
	if two < 300 {
		t.Errorf("only %d have two", two)
	}
	shortens(t, fin(5192168176589232, -8), "20281906939801687", 14)
	shortens(t, fin(7629111929371280, -8), "29801218474106562", 14)
}

func TestRealTextByHand(t *testing.T) {
	for _, c := range []struct {
		r    impl.Real
		want string
	}{
		{infinite(), "inf"}, {below(infinite()), "-inf"}, {nought(), "0"}, {below(nought()), "-0"},
		{fin(fullMan, -52), "1"}, {below(fin(fullMan, -52)), "-1"}, {fin(fullMan, -50), "4"}, {fin(9<<49, -49), "9"}, {fin(fullMan+fullMan/2, -52), "1.5"}, {below(fin(5<<50, -51)), "-2.5"},
		{fin(5<<50, -49), "1e1"}, {fin(fullMan, -53), "5e-1"}, {below(fin(fullMan, -53)), "-5e-1"}, {fin(fullMan, -54), "2.5e-1"}, {fin(7205759403792794, -56), "1e-1"}, {fin(3<<51, -49), "1.2e1"},
		{fin(5404319552844596, -54), "3.0000000000000004e-1"}, {fin(1, -150), "7e-46"}, {below(fin(2, -150)), "-1.4e-45"}, {fin(lastMan, 150), "1.2855504354071921e61"}, {below(fin(lastMan, 150)), "-1.2855504354071921e61"}, {fin(lastMan, 0), "9.007199254740991e15"}, {fin(lastMan, -53), "9.999999999999999e-1"}, {fin(fullMan+1, -52), "1.0000000000000002"},
	} {
		got, ok := impl.RealText(c.r)
		told(t, fmt.Sprintf("RealText(%v)", c.r), got, ok, c.want)
		reads(t, c.want, c.r)
	}
}

// Every real comes back from its text.
func TestRealsComeBack(t *testing.T) {
	t.Parallel()
	d := &dice{state: 1103}
	all := append(signedEdges(), infinite(), below(infinite()))
	for range 5000 {
		all = append(all, d.real())
	}
	for n, r := range all {
		text, ok := impl.RealText(r)
		if !ok {
			t.Errorf("RealText(%v): no text", r)
		}
		reads(t, text, r)
		if n%8 == 0 {
			told(t, fmt.Sprintf("RealText(%v)", r), text, ok, modelText(t, r))
		}
	}
}
