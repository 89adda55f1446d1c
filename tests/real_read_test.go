package tests

import (
	"fmt"
	"math/big"
	"regexp"
	"strconv"
	"strings"
	"testing"

	"loop.example/g00201/impl"
)

var realShape = regexp.MustCompile(`^(-?)([0-9]{1,40})(?:\.([0-9]{1,40}))?(?:e(0|-?[1-9][0-9]?))?$`)

// modelReadReal reads a text by its shape.
func modelReadReal(s string) (impl.Real, bool) {
	switch s {
	case "inf":
		return infinite(), true
	case "-inf":
		return below(infinite()), true
	}
	parts := realShape.FindStringSubmatch(s)
	if parts == nil || strings.HasSuffix(s, "\n") {
		return impl.Real{}, false
	}
	top, _ := new(big.Int).SetString(parts[2]+parts[3], 10)
	power, _ := strconv.Atoi(parts[4])
	x := new(big.Rat).SetFrac(top, tens(len(parts[3])))
	x.Mul(x, new(big.Rat).SetInt(tens(max(power, 0))))
	x.Quo(x, new(big.Rat).SetInt(tens(max(-power, 0))))
	r := modelReal(x, false)
	r.Neg = parts[1] == "-"
	return r, true
}

func notRead(t *testing.T, s string) {
	t.Helper()
	r, ok := impl.ReadReal(s)
	noReal(t, fmt.Sprintf("ReadReal(%q)", short(s)), r, ok)
}

func TestReadRealByHand(t *testing.T) {
	one := fin(fullMan, -52)
	tenth := fin(7205759403792794, -56)
	for _, c := range []struct {
		s    string
		want impl.Real
	}{
		{"inf", infinite()}, {"-inf", below(infinite())}, {"0", nought()}, {"-0", below(nought())}, {"1", one}, {"-1", below(one)},
		{"0.1", tenth}, {"1e-1", tenth}, {"10e-2", tenth}, {"0.01e1", tenth}, {"-0.1", below(tenth)}, {"0.10", tenth}, {"00.1", tenth}, {"0.100000000000000005551115123125782702118", tenth},
		// Needless noughts ahead and behind the point.
		{"00", nought()}, {"-000", below(nought())}, {"0.0", nought()}, {"-0.00", below(nought())}, {"0e0", nought()}, {"0e99", nought()}, {"-0e-99", below(nought())}, {"-0.0e5", below(nought())}, {"001", one}, {"1.000", one}, {"01.0", one}, {"-001.50", below(fin(fullMan+fullMan/2, -52))},
		// Powers of ten.
		{"1e0", one}, {"1e1", fin(5<<50, -49)}, {"10e-1", one}, {"0.1e1", one}, {"100e-2", one}, {"1e9", fin(8388608000000000, -23)}, {"1e10", fin(5242880000000000, -19)}, {"5e-1", fin(fullMan, -53)}, {"2.5e-1", fin(fullMan, -54)}, {"1e99", infinite()}, {"-1e99", below(infinite())}, {"1e-99", nought()}, {"-1e-99", below(nought())},
		{"7e-46", fin(1, -150)}, {"3e-46", nought()}, {"-3e-46", below(nought())}, {"4e-46", fin(1, -150)}, {"1e-45", fin(1, -150)}, {"1.1e-45", fin(2, -150)},
		{"1.2855504354071921e61", fin(lastMan, 150)}, {"1.2855504354071922e61", infinite()}, {"1.3e61", infinite()}, {"-2e61", below(infinite())},
		{"9007199254740993", fin(fullMan, 1)}, {"9007199254740993.0000000000000000000000000000000000000001", fin(fullMan+1, 1)}, {"9007199254740992.9999999999999999999999999999999999999999", fin(fullMan, 1)}, {"9007199254740995", fin(fullMan+2, 1)},
	} {
		reads(t, c.s, c.want)
		want, ok := modelReadReal(c.s)
		isReal(t, fmt.Sprintf("the model of %q", c.s), want, ok, c.want)
	}
}

// Digits of 40 are read ahead of the point and behind it, of 41 not; powers from -99 to 99.
func TestReadRealLimits(t *testing.T) {
	long, zeros := nines(40), strings.Repeat("0", 39)
	for _, s := range []string{long, "-" + long, long + "." + long, "-" + long + "." + long, "1." + long, zeros + "1", zeros + "1.0", "0." + zeros + "1", zeros + "0." + zeros + "1", long + "." + long + "e99", "-" + long + "." + long + "e-99", long + "e20", long + "e-40", "0." + zeros + "1e99", "0." + zeros + "1e-99", zeros + "9." + zeros + "9e-61", "1e98", "1e-98", "1e61", "1e-46", "0." + zeros + "7e-6", one(39) + "e-99"} {
		want, ok := modelReadReal(s)
		if !ok {
			t.Errorf("%q is no real", s)
		}
		reads(t, s, want)
	}
	for _, s := range []string{nines(41), "-" + nines(41), "1." + nines(41), nines(41) + ".1", nines(41) + "e1", zeros + "01", zeros + "00.1", "0." + zeros + "00", "1." + zeros + "00e1", "-" + zeros + "00", nines(600), "1e100", "1e-100", "1e999", "1e-999", "1e" + nines(30), "1e-" + nines(30), "0e100", "1e9223372036854775807", "1e-9223372036854775808", "1e9223372036854775808", "1e18446744073709551617"} {
		notRead(t, s)
	}
}

func TestReadRealOfWrongTexts(t *testing.T) {
	wrong := []string{
		"", "-", "+", "--", "--1", "-+1", "+1", "+0", "+inf", "--inf", "-i", "in", "i", "inff", "infinity", "Inf", "INF", "inf ", " inf", "inf0", "0inf", "inf.0", "infe1", "inf\x00", "nan", "NaN", "-nan",
		".", "-.", "1.", "-1.", ".5", "-.5", "1..5", "1.5.", "1.5.5", ".e1", "1.e1", ".5e1", "e", "e1", "-e1", "1e", "1.5e", "1e-", "1e+", "1e+1", "1e--1", "1e+-1", "1e1-", "1e1e1", "1ee1", "1E1", "1e1.0", "1e1.", "1e.1", "1.5e1.5",
		"1e00", "1e01", "1e-0", "1e-00", "1e-01", "1e001", "1e099", "1e-099", "1e 1", "1 e1", "1e1 ", " 1", "1 ", "- 1", "1-", "1.-5", "1.5-", "-1-", "1.+5", "1/2", "1,5", "1_0", "1e1_0", "0x1", "0x1p1", "1p1", "1f", "#d1", "1e#1",
		"1\n", "1.5\n", "1e1\n", "\n1", "1\x00", "1\x00.5", "\x00", "\xff", "1.\xff", "1e\xff", "1\xff", "１", "1.５", "1e５", "−1", "1e−1", "٣", "1·5", "∞", "1\u0660",
	}
	for c := range 256 {
		text := string([]byte{byte(c)})
		for _, s := range []string{text, text + "1", "1" + text, "1" + text + "1", "1." + text, "1." + text + "5", "1.5" + text, "1e" + text, "1e" + text + "1", "1e1" + text, "in" + text, text + "inf", "inf" + text} {
			if _, ok := modelReadReal(s); !ok {
				wrong = append(wrong, s)
			}
		}
	}
	for _, s := range wrong {
		if _, ok := modelReadReal(s); ok {
			t.Errorf("%q is a real", s)
		}
		notRead(t, s)
	}
}

// Texts of the letters that may stand somewhere are read as their shape says.
func TestReadRealOfDrawnTexts(t *testing.T) {
	t.Parallel()
	d := &dice{state: 1109}
	good := 0
	for n := range 40000 {
		text := make([]byte, d.below(9))
		for at := range text {
			text[at] = "0123456789.e--..ee0019+inf \x00"[d.below(28)]
		}
		s := string(text)
		if n%4 == 0 {
			s = d.realText()
		}
		want, ok := modelReadReal(s)
		if !ok {
			notRead(t, s)
			continue
		}
		good++
		reads(t, s, want)
	}
	if good < 8000 {
		t.Errorf("only %d are reals", good)
	}
}

// realText draws a text that is read, but for a letter that is wrong now and then.
func (d *dice) realText() string {
	digits := func() string {
		text := []byte(d.nat(1 + d.below(40)))
		for at := range d.below(len(text) + 1) {
			text[at] = '0'
		}
		return string(text)
	}
	s := []string{"", "-"}[d.below(2)] + digits()
	if d.below(2) == 0 {
		s += "." + digits()
	}
	if d.below(3) > 0 {
		s += fmt.Sprintf("e%d", d.below(199)-99)
	}
	if d.below(10) == 0 {
		at := d.below(len(s))
		s = s[:at] + string("0.e-x"[d.below(5)]) + s[at:]
	}
	return s
}

// What is read is what RealOfNum tells of the number.
func TestReadRealIsRealOfNum(t *testing.T) {
	d := &dice{state: 1117}
	for range 2000 {
		digits, n := d.nat(1+d.below(40)), d.below(199)-99
		number, okNumber := impl.MulNum(digits, decimal(t, "1", n+1).RatString())
		want, okReal := impl.RealOfNum(number)
		if !okNumber || !okReal {
			t.Errorf("%s times 10 to the power of %d: no real", digits, n)
		}
		reads(t, fmt.Sprintf("%se%d", digits, n), want)
		if digits != "0" {
			reads(t, fmt.Sprintf("-%se%d", digits, n), below(want))
		}
	}
}
