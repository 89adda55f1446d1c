package tests

import (
	"fmt"
	"math"
	"strings"
	"testing"
	"time"

	"loop.example/g00201/impl"
)

// zeroOfReal asks every function of one real for the zero answer.
func zeroOfReal(t *testing.T, r impl.Real) {
	t.Helper()
	number, ok := impl.NumOfReal(r)
	refused(t, fmt.Sprintf("NumOfReal(%v)", r), number, ok)
	next, ok := impl.NextReal(r)
	noReal(t, fmt.Sprintf("NextReal(%v)", r), next, ok)
	digits, point, ok := impl.ShortestReal(r)
	called(fmt.Sprintf("ShortestReal(%v)", r), ok, digits, point).isZero(t)
	text, ok := impl.RealText(r)
	refused(t, fmt.Sprintf("RealText(%v)", r), text, ok)
}

// zeroOfReals asks every function of two reals for it.
func zeroOfReals(t *testing.T, a impl.Real, b impl.Real) {
	t.Helper()
	order, ok := impl.CompareReal(a, b)
	called(fmt.Sprintf("CompareReal(%v, %v)", a, b), ok, order).isZero(t)
	for _, c := range realCalls() {
		c.isZero(t, a, b)
	}
}

func TestRealsThatAreNone(t *testing.T) {
	good := []impl.Real{nought(), below(nought()), fin(1, -150), fin(fullMan, -52), below(fin(lastMan, 150)), infinite(), below(infinite()), {}}
	for _, r := range append(wrongReals(), impl.Real{}, impl.Real{Neg: true}) {
		zeroOfReal(t, r)
		zeroOfReals(t, r, r)
		for _, other := range good {
			zeroOfReals(t, r, other)
			zeroOfReals(t, other, r)
		}
	}
}

// anyInt draws an int near those at which something changes, or any.
func (d *dice) anyInt() int {
	ints := []int{math.MinInt, -fullMan, -151, -150, -149, -1, 0, 0, 1, 149, 150, 151, 152, fullMan - 1, fullMan, fullMan + 1, lastMan, lastMan + 1, 1 << 54, math.MaxInt}
	if d.below(4) == 0 {
		return d.wide() - 1<<59
	}
	return ints[d.below(len(ints))] + d.below(3) - 1
}

// Whatever fields a real has, it is answered, and good ones alone with true.
func TestRealsOfAnyFields(t *testing.T) {
	d := &dice{state: 1123}
	many := 0
	for range 60000 {
		a := impl.Real{Neg: d.below(2) == 0, Man: d.anyInt(), Exp: d.anyInt()}
		b := impl.Real{Neg: d.below(2) == 0, Man: d.anyInt(), Exp: d.anyInt()}
		want := a.Man >= 0 && a.Man <= lastMan && (a.Exp == -150 || a.Man >= fullMan && a.Exp >= -150 && a.Exp <= 150) || a.Man == 0 && a.Exp == 151
		if impl.GoodReal(a) != want {
			t.Errorf("GoodReal(%v): not %v", a, want)
		}
		if !want {
			zeroOfReal(t, a)
			zeroOfReals(t, a, b)
			zeroOfReals(t, b, a)
			continue
		}
		many++
		text, ok := impl.RealText(a)
		if !ok || text == "" {
			t.Errorf("RealText(%v): %q, %v", a, text, ok)
		}
		reads(t, text, a)
	}
	if many < 2000 {
		t.Errorf("only %d are good", many)
	}
}

func TestRealOfWrongNums(t *testing.T) {
	for _, x := range append(wrongNums(), "inf", "-inf", "0.5", "1e1", "-0") {
		r, ok := impl.RealOfNum(x)
		noReal(t, fmt.Sprintf("RealOfNum(%q)", short(x)), r, ok)
	}
}

// Texts of any bytes are answered by both readers, and numbers alone with true.
func TestRealsOfAnyBytes(t *testing.T) {
	d := &dice{state: 1129}
	for range 40000 {
		text := make([]byte, d.below(7))
		for at := range text {
			text[at] = "0123456789-/.e"[d.below(14)]
			if d.below(12) == 0 {
				text[at] = byte(d.below(256))
			}
		}
		s := string(text)
		if r, ok := impl.RealOfNum(s); impl.GoodNum(s) {
			isReal(t, fmt.Sprintf("RealOfNum(%q)", s), r, ok, modelReal(ratOf(t, s), false))
		} else {
			noReal(t, fmt.Sprintf("RealOfNum(%q)", s), r, ok)
		}
		r, ok := impl.ReadReal(s)
		if want, read := modelReadReal(s); r != want || ok != read {
			t.Errorf("ReadReal(%q): %v, %v; wanted %v, %v", s, r, ok, want, read)
		}
	}
}

// Texts stay as they are, what is behind them is not read, and the same is told again.
func TestRealTextsAreNotWritten(t *testing.T) {
	for _, s := range []string{"", "-", "0", "1", "1.", "1.5", "1e", "1e1", "in", "inf", "-inf", "12/35", "1/", "-7", "2/4", "1e-9", nines(40)} {
		text, _, same := given(s)
		want, wantOk := impl.ReadReal(strings.Clone(s))
		if r, ok := impl.ReadReal(text); r != want || ok != wantOk || !same() {
			t.Errorf("ReadReal(%q): %v, %v, or it was written into", s, r, ok)
		}
		want, wantOk = impl.RealOfNum(strings.Clone(s))
		if r, ok := impl.RealOfNum(text); r != want || ok != wantOk || !same() {
			t.Errorf("RealOfNum(%q): %v, %v, or it was written into", s, r, ok)
		}
	}
	for _, r := range signedEdges() {
		text, _ := impl.RealText(r)
		again, _ := impl.RealText(r)
		number, _ := impl.NumOfReal(r)
		back, _ := impl.NumOfReal(r)
		if text != again || number != back {
			t.Errorf("%v: %q, then %q; %q, then %q", r, text, again, number, back)
		}
	}
}

// The longest arguments, and texts of a megabyte, are answered at once.
func TestRealsInGoodTime(t *testing.T) {
	inTime(t, 30*time.Second, func() {
		for _, letter := range []string{"0", "1", "9", ".", "e", "-", "/", "x", "\x00", "\xff", "inf"} {
			many := strings.Repeat(letter, 1<<20)
			for _, s := range []string{many, "-" + many, "1." + many, "1e" + many, "1e-" + many, "1/" + many, "inf" + many, "1.5" + many} {
				notRead(t, s)
				r, ok := impl.RealOfNum(s)
				noReal(t, fmt.Sprintf("RealOfNum(%q)", short(s)), r, ok)
			}
		}
		d := &dice{state: 1151}
		for range 300 {
			impl.RealOfNum(d.num(149, 149))
			impl.RealOfNum(nines(300))
			impl.RealOfNum("1/" + nines(298))
			reads(t, nines(40)+"."+nines(40)+"e99", infinite())
			reads(t, "0."+strings.Repeat("0", 39)+"1e-99", nought())
			for _, c := range realCalls() {
				c.call(fin(lastMan, 150), fin(1, -150))
				c.call(fin(1, -150), fin(lastMan, 150))
				c.call(fin(lastMan, -150), fin(lastMan-1, 150))
			}
			impl.RealText(fin(lastMan, 150))
			impl.RealText(fin(lastMan, -150))
		}
	})
}
