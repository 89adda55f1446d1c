package tests

import (
	"fmt"
	"math/big"
	"strings"
	"testing"

	"loop.example/g00201/impl"
)

func TestReadNum(t *testing.T) {
	noughts := strings.Repeat("0", 599)
	rows := [][2]string{
		{"0", "0"}, {"-0", "0"}, {"+0", "0"}, {"7", "7"}, {"+7", "7"}, {"-7", "-7"}, {"007", "7"}, {"-007", "-7"}, {"1/1", "1"}, {"0/1", "0"}, {"-0/5", "0"}, {"2/4", "1/2"},
		{"-2/4", "-1/2"}, {"+2/4", "1/2"}, {"4/2", "2"}, {"-004/002", "-2"}, {"12", "12"}, {"1/2", "1/2"},
		{"#d12", "12"}, {"#d-12", "-12"}, {"#d+12", "12"}, {"#d-12/8", "-3/2"}, {"#d9", "9"},
		{"#xff", "255"}, {"#xFF", "255"}, {"#xaBcDeF", "11259375"}, {"#x-1A/4", "-13/2"}, {"#x+1a", "26"}, {"#x-F/A", "-3/2"}, {"#x10/10", "1"}, {"#x9", "9"},
		{"#o17", "15"}, {"#o-17/3", "-5"}, {"#o+7/10", "7/8"}, {"#o0", "0"},
		{"#b101", "5"}, {"#b-101/11", "-5/3"}, {"#b+1/10", "1/2"}, {"#b-0", "0"}, {"#b1", "1"},
		{nines(600), nines(600)}, {"-" + nines(600), "-" + nines(600)}, {"#d" + nines(600), nines(600)}, {noughts + "1", "1"}, {"-" + noughts + "5/" + noughts + "3", "-5/3"},
		{nines(600) + "/" + one(599), nines(600) + "/" + one(599)}, {"+" + nines(600) + "/" + nines(600), "1"}, {"#x" + noughts + "F", "15"},
		{"#b" + noughts + "1/" + noughts + "1", "1"}, {"#o" + noughts + "7", "7"}, {"0/" + nines(600), "0"},
	}
	for _, r := range rows {
		got, ok := impl.ReadNum(r[0])
		told(t, fmt.Sprintf("ReadNum(%q)", short(r[0])), got, ok, r[1])
	}
}

// Digits of each radix, 600 of them, are read where they tell a number; the 601st is too many.
func TestReadNumLimits(t *testing.T) {
	for radix, sign := range map[int]string{2: "#b", 8: "#o", 10: "#d", 16: "#x"} {
		for _, digit := range []string{"1", "7", "f"} {
			if digit > "1" && radix == 2 || digit > "7" && radix < 16 {
				continue
			}
			digits := strings.Repeat(digit, 600)
			n, _ := new(big.Int).SetString(digits, radix)
			got, ok := impl.ReadNum(sign + digits)
			toldIfShort(t, "ReadNum "+sign+short(digits), got, ok, n)
			got, ok = impl.ReadNum(sign + "1/" + digits)
			if len(n.String()) <= 600 {
				told(t, "ReadNum "+sign+"1/"+short(digits), got, ok, "1/"+n.String())
			} else {
				refused(t, "ReadNum "+sign+"1/"+short(digits), got, ok)
			}
		}
		for _, long := range []string{strings.Repeat("0", 601), strings.Repeat("0", 600) + "1", one(600), strings.Repeat("1", 2000)} {
			for _, s := range []string{long, "-" + long, "+" + long, long + "/1", "1/" + long, long + "/" + long} {
				got, ok := impl.ReadNum(sign + s)
				refused(t, "ReadNum "+sign+short(s), got, ok)
			}
		}
	}
	for _, s := range []string{one(600), "-" + one(600), "1/" + one(600), one(600) + "/" + one(600), strings.Repeat("0", 601)} {
		got, ok := impl.ReadNum(s)
		refused(t, "ReadNum "+short(s), got, ok)
	}
}

// The greatest natural number is read where its digits are not too many (in radix 16), the next one is not.
func TestReadNumAtMaxDigits(t *testing.T) {
	most := bigOf(t, nines(600)).Text(16)
	above := bigOf(t, one(600)).Text(16)
	for _, s := range []string{most, strings.ToUpper(most)} {
		got, ok := impl.ReadNum("#x-" + s)
		told(t, "ReadNum #x", got, ok, "-"+nines(600))
		got, ok = impl.ReadNum("#x1/" + s)
		told(t, "ReadNum #x1/", got, ok, "1/"+nines(600))
		got, ok = impl.ReadNum("#x" + s + "/" + s)
		told(t, "ReadNum #x", got, ok, "1")
	}
	for _, s := range []string{above, "-" + above, "1/" + above, above + "/7", "7/" + above, above + "/" + most} {
		got, ok := impl.ReadNum("#x" + s)
		refused(t, "ReadNum #x"+short(s), got, ok)
	}
}

// Digits that make more than MaxDigits decimal ones tell a number where its lowest terms are short enough.
func TestReadNumInLowestTerms(t *testing.T) {
	f, noughts := strings.Repeat("F", 600), strings.Repeat("0", 598)
	above := bigOf(t, one(600)).Text(16)
	rows := [][2]string{
		{"#x0/" + f, "0"}, {"#x-0/" + f, "0"}, {"#x+" + f + "/" + f, "1"}, {"#x-" + f + "/" + f, "-1"}, {"#x-1" + noughts + "0/1" + noughts, "-16"}, {"#x1" + noughts + "/1" + noughts + "0", "1/16"},
		{"#x" + above + "/" + above, "1"}, {"#x-" + above + "/A", "-" + one(599)}, {"#xA/" + above, "1/" + one(599)}, {"#x" + f + "/" + strings.Repeat("f", 300), bigPower(2, 1200, 1)}, {"#x-" + f + "/" + strings.Repeat("5", 600), "-3"}, {"#x" + f + "/" + strings.Repeat("E", 600), "15/14"},
	}
	for _, r := range rows {
		got, ok := impl.ReadNum(r[0])
		told(t, fmt.Sprintf("ReadNum(%q)", short(r[0])), got, ok, r[1])
	}
	for _, s := range []string{"#x" + f, "#x-" + f, "#x1/" + f, "#x" + f + "/1", "#x" + f + "/2", "#x" + f + "/F", "#xF/" + f, "#x0/" + f + "F", "#x" + f + "F/" + f + "F", "#x" + f + "/0", "#x0/" + strings.Repeat("0", 600)} {
		got, ok := impl.ReadNum(s)
		refused(t, fmt.Sprintf("ReadNum(%q)", short(s)), got, ok)
	}
}

// bigPower is a power of a number, and so much more.
func bigPower(base int64, n int64, more int64) string {
	power := new(big.Int).Exp(big.NewInt(base), big.NewInt(n), nil)
	return power.Add(power, big.NewInt(more)).String()
}

// Tops and bottoms of every length that 600 digits of radix 16 may make, with a divisor of any length in common.
func TestReadNumOfLongDigits(t *testing.T) {
	d := &dice{state: 61}
	told, longer := 0, 0
	for range 1500 {
		common := bigOf(t, d.nat(1+d.below(723)))
		top := bigOf(t, d.nat(1+d.below(723)))
		bottom := bigOf(t, d.nat(1+d.below(723)))
		if d.below(2) == 0 {
			// Half of them have lengths that fit, so that many are just at the edge.
			top = bigOf(t, d.nat(max(1, 723-len(common.String())-d.below(3))))
		}
		top.Mul(top, common)
		bottom.Mul(bottom, common)
		over, under := top.Text(16), bottom.Text(16)
		if len(over) > 600 || len(under) > 600 || bottom.Sign() == 0 {
			continue
		}
		told++
		if len(top.String()) > 600 || len(bottom.String()) > 600 {
			longer++
		}
		got, ok := impl.ReadNum("#x" + over + "/" + under)
		toldIfNum(t, "ReadNum #x"+short(over)+"/"+short(under), got, ok, new(big.Rat).SetFrac(top, bottom))
	}
	if told < 200 || longer < 100 {
		t.Error("only", told, "were short enough, and", longer, "longer than MaxDigits")
	}
}

func TestReadNumOfWrongTexts(t *testing.T) {
	rows := []string{
		"", "-", "+", "/", "#", "#x", "#o", "#b", "#d", "#x-", "#x+", "#b/", "#d-/", "1/", "-1/", "#x1/", "/1", "-/1", "#x/1", "1/-", "1/+",
		"--1", "++1", "+-1", "-+1", "#x--1", "1-", "1+", "1/-2", "1/+2", "1//2", "1/2/3", "1/2/", "/1/2", "-#x1", "+#d1", "#x#x1", "#x#d1", "#d#d1", "##x1",
		"1/0", "-1/0", "0/0", "1/000", "#x1/0", "#b1/00", "#o-7/0", "#d0/0", "0/00",
		"#X1", "#O1", "#B1", "#D1", "#e1", "#i1", "#1", "# 1", "#-1", "x1", "0x1", "b1", "1x",
		"a", "f", "1a", "#da", "#dA", "#o8", "#o9", "#oa", "#b2", "#b12", "#b1/2", "#o1/8", "#d1/a", "#xg", "#xG", "#x1/g", "#x.1", "1.0", "1e3", ".5", "1_0",
		" 1", "1 ", "- 1", "1/ 2", "1 /2", "#x 1", "1\n", "\n1", "1\x00", "\x001", "1\xff", "\xff", "#\xff1", "１", "1/２", "−1", "½", "1⁄2",
	}
	for _, s := range rows {
		got, ok := impl.ReadNum(s)
		refused(t, fmt.Sprintf("ReadNum(%q)", s), got, ok)
	}
}

// Each byte may stand in one place only: as the radix's sign, as a digit of it, as a sign, or as a stroke.
func TestReadNumOfAllBytes(t *testing.T) {
	radixOf := map[string]int{"": 10, "#d": 10, "#x": 16, "#o": 8, "#b": 2}
	for c := range 256 {
		text := string([]byte{byte(c)})
		_, isRadix := radixOf["#"+text]
		if got, ok := impl.ReadNum("#" + text + "1"); ok != isRadix || ok && got != "1" {
			t.Errorf("ReadNum of # and %q: %s, %v", text, got, ok)
		}
		isSign := c == '+' || c == '-' || c >= '0' && c <= '9'
		if got, ok := impl.ReadNum(text + "1"); ok != isSign {
			t.Errorf("ReadNum of %q ahead: %s, %v", text, got, ok)
		}
		for sign, radix := range radixOf {
			worth, err := new(big.Int).SetString(text, radix)
			isDigit := err && c != '+' && c != '-'
			got, ok := impl.ReadNum(sign + "1/1" + text)
			if !isDigit {
				refused(t, fmt.Sprintf("ReadNum %s1/1 and %q", sign, text), got, ok)
				continue
			}
			told(t, fmt.Sprintf("ReadNum %s1/1 and %q", sign, text), got, ok, fmt.Sprint("1/", radix+int(worth.Int64())))
		}
	}
}

func TestNumText(t *testing.T) {
	rows := []struct {
		a     string
		radix int
		want  string
	}{
		{"0", 2, "0"}, {"0", 8, "0"}, {"0", 10, "0"}, {"0", 16, "0"}, {"255", 16, "ff"}, {"-255", 16, "-ff"}, {"255", 2, "11111111"}, {"-255", 8, "-377"},
		{"-13/2", 16, "-d/2"}, {"13/2", 2, "1101/10"}, {"-13/2", 10, "-13/2"}, {"8/9", 8, "10/11"}, {"1/10", 16, "1/a"}, {"-171/205", 16, "-ab/cd"},
		{nines(600), 10, nines(600)}, {"-1/" + nines(600), 10, "-1/" + nines(600)},
	}
	for _, r := range rows {
		got, ok := impl.NumText(r.a, r.radix)
		told(t, fmt.Sprint("NumText ", short(r.a), r.radix), got, ok, r.want)
	}
	for _, a := range append(smallNums(), nums()...) {
		n := ratOf(t, a)
		for _, radix := range radixes() {
			want := n.Num().Text(radix)
			if !n.IsInt() {
				want += "/" + n.Denom().Text(radix)
			}
			got, ok := impl.NumText(a, radix)
			told(t, fmt.Sprint("NumText ", short(a), radix), got, ok, want)
		}
	}
}

func TestNumTextOfWrongRadixes(t *testing.T) {
	for _, a := range []string{"0", "-1", "1/2", nines(600), "-1/" + nines(600)} {
		for _, radix := range wrongRadixes() {
			got, ok := impl.NumText(a, radix)
			refused(t, fmt.Sprintf("NumText(%q, %d)", short(a), radix), got, ok)
		}
	}
}

// What NumText gives comes back by ReadNum with the radix's sign ahead, where it has no more digits than ReadNum takes.
func TestNumTextsComeBack(t *testing.T) {
	signs := map[int]string{2: "#b", 8: "#o", 10: "#d", 16: "#x"}
	for _, a := range append(smallNums(), nums()...) {
		for _, radix := range radixes() {
			text, ok := impl.NumText(a, radix)
			if !ok {
				t.Errorf("NumText(%s, %d) is refused", short(a), radix)
			}
			top, bottom, _ := strings.Cut(strings.TrimPrefix(text, "-"), "/")
			for _, s := range []string{text, strings.ToUpper(text)} {
				got, ok := impl.ReadNum(signs[radix] + s)
				if len(top) > 600 || len(bottom) > 600 {
					refused(t, "ReadNum "+signs[radix]+short(s), got, ok)
				} else {
					told(t, "ReadNum "+signs[radix]+short(s), got, ok, a)
				}
			}
		}
		got, ok := impl.ReadNum(a)
		told(t, "ReadNum "+short(a), got, ok, a)
	}
}
