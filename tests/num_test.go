package tests

import (
	"fmt"
	"math/big"
	"strings"
	"testing"

	"loop.example/g00201/impl"
)

func TestGoodNum(t *testing.T) {
	good := []string{
		"0", "1", "-1", "10", "-10", "1/2", "-1/2", "2/3", "22/7", "-22/7", "9/10", "10/9", "4/9", "1/10",
		nines(600), "-" + nines(600), "1/" + nines(600), "-1/" + nines(600), nines(600) + "/" + one(599), "-" + one(599) + "/" + nines(600),
	}
	for _, s := range append(append(good, nums()...), smallNums()...) {
		if !impl.GoodNum(s) {
			t.Errorf("GoodNum(%q) is false", short(s))
		}
	}
	for _, s := range wrongNums() {
		if impl.GoodNum(s) {
			t.Errorf("GoodNum(%q) is true", short(s))
		}
	}
}

func TestMakeNum(t *testing.T) {
	rows := []struct {
		neg         bool
		top, bottom string
		want        string
	}{
		{false, "0", "1", "0"}, {true, "0", "1", "0"}, {true, "0", "7", "0"}, {false, "0", nines(600), "0"}, {true, "0", nines(600), "0"},
		{false, "1", "1", "1"}, {true, "1", "1", "-1"}, {false, "2", "4", "1/2"}, {true, "2", "4", "-1/2"}, {false, "4", "2", "2"}, {true, "4", "2", "-2"},
		{false, "7", "3", "7/3"}, {true, "3", "7", "-3/7"}, {false, "1", "2", "1/2"}, {false, "12", "18", "2/3"},
		{false, nines(600), nines(600), "1"}, {true, nines(600), nines(600), "-1"}, {true, nines(600), "1", "-" + nines(600)},
		{true, "1", nines(600), "-1/" + nines(600)}, {false, nines(600), one(599), nines(600) + "/" + one(599)},
		{false, one(599), one(598), "10"}, {false, nines(600), "9", strings.Repeat("1", 600)},
	}
	for _, r := range rows {
		got, ok := impl.MakeNum(r.neg, r.top, r.bottom)
		told(t, fmt.Sprint("MakeNum ", r.neg, " ", short(r.top), " ", short(r.bottom)), got, ok, r.want)
	}
	for _, neg := range []bool{false, true} {
		for _, top := range []string{"0", "1", "5", nines(600)} {
			got, ok := impl.MakeNum(neg, top, "0")
			refused(t, "MakeNum over 0", got, ok)
		}
	}
}

func TestMakeNumInLowestTerms(t *testing.T) {
	for at, top := range samples() {
		for _, bottom := range samples()[at%4:] {
			if bottom == "0" || len(top)+len(bottom) > 700 {
				continue
			}
			want := new(big.Rat).SetFrac(bigOf(t, top), bigOf(t, bottom))
			got, ok := impl.MakeNum(false, top, bottom)
			told(t, "MakeNum "+short(top)+" "+short(bottom), got, ok, want.RatString())
			got, ok = impl.MakeNum(true, top, bottom)
			told(t, "MakeNum below 0 "+short(top)+" "+short(bottom), got, ok, want.Neg(want).RatString())
		}
	}
}

func TestAddNum(t *testing.T) {
	t.Parallel()
	rows := [][3]string{
		{"0", "0", "0"}, {"0", "-1/2", "-1/2"}, {"1/2", "-1/3", "1/6"}, {"1/2", "1/2", "1"}, {"-1/2", "-1/2", "-1"}, {"1/2", "-1/2", "0"},
		{"1/6", "1/3", "1/2"}, {"-5", "3", "-2"}, {"5", "-3", "2"}, {"-3/4", "1/4", "-1/2"}, {"999999/2", "1/2", "500000"},
		{nines(599), "1", one(599)}, {"-" + nines(600), nines(600), "0"}, {"1/" + nines(600), "-1/" + nines(600), "0"},
	}
	for _, r := range rows {
		got, ok := impl.AddNum(r[0], r[1])
		told(t, "AddNum "+short(r[0])+" "+short(r[1]), got, ok, r[2])
	}
	eachPair(func(a string, b string) {
		got, ok := impl.AddNum(a, b)
		toldIfNum(t, "AddNum "+short(a)+" "+short(b), got, ok, new(big.Rat).Add(ratOf(t, a), ratOf(t, b)))
	})
}

func TestSubNum(t *testing.T) {
	t.Parallel()
	rows := [][3]string{
		{"0", "0", "0"}, {"0", "-1/2", "1/2"}, {"0", "1/2", "-1/2"}, {"1/2", "1/3", "1/6"}, {"1/3", "1/2", "-1/6"}, {"1/2", "1/2", "0"},
		{"-1/2", "-1/2", "0"}, {"5", "-3", "8"}, {"-5", "3", "-8"}, {"3/4", "1/4", "1/2"}, {one(599), "1", nines(599)},
		{nines(600), nines(600), "0"}, {"-1/" + nines(600), "-1/" + nines(600), "0"},
	}
	for _, r := range rows {
		got, ok := impl.SubNum(r[0], r[1])
		told(t, "SubNum "+short(r[0])+" "+short(r[1]), got, ok, r[2])
	}
	eachPair(func(a string, b string) {
		got, ok := impl.SubNum(a, b)
		toldIfNum(t, "SubNum "+short(a)+" "+short(b), got, ok, new(big.Rat).Sub(ratOf(t, a), ratOf(t, b)))
	})
}

func TestMulNum(t *testing.T) {
	t.Parallel()
	rows := [][3]string{
		{"0", "-1/2", "0"}, {"-1/2", "0", "0"}, {"2/3", "3/2", "1"}, {"-2/3", "3/2", "-1"}, {"-2/3", "-3/2", "1"}, {"2/3", "3/4", "1/2"},
		{"-5", "3", "-15"}, {"5", "-1/5", "-1"}, {"-1", "-1", "1"}, {nines(600), "1/" + nines(600), "1"}, {"-" + nines(600), "-1", nines(600)},
	}
	for _, r := range rows {
		got, ok := impl.MulNum(r[0], r[1])
		told(t, "MulNum "+short(r[0])+" "+short(r[1]), got, ok, r[2])
	}
	eachPair(func(a string, b string) {
		got, ok := impl.MulNum(a, b)
		toldIfNum(t, "MulNum "+short(a)+" "+short(b), got, ok, new(big.Rat).Mul(ratOf(t, a), ratOf(t, b)))
	})
}

func TestDivNum(t *testing.T) {
	t.Parallel()
	rows := [][3]string{
		{"0", "-1/2", "0"}, {"2/3", "-4", "-1/6"}, {"-2/3", "-4", "1/6"}, {"1", "2", "1/2"}, {"-1", "2", "-1/2"}, {"4", "2", "2"},
		{"1", "-1/2", "-2"}, {"7/3", "7/3", "1"}, {"-7/3", "7/3", "-1"}, {"1", nines(600), "1/" + nines(600)}, {"-1", "-1/" + nines(600), nines(600)},
	}
	for _, r := range rows {
		got, ok := impl.DivNum(r[0], r[1])
		told(t, "DivNum "+short(r[0])+" "+short(r[1]), got, ok, r[2])
	}
	eachPair(func(a string, b string) {
		got, ok := impl.DivNum(a, b)
		if b == "0" {
			refused(t, "DivNum "+short(a)+" by 0", got, ok)
			return
		}
		toldIfNum(t, "DivNum "+short(a)+" "+short(b), got, ok, new(big.Rat).Quo(ratOf(t, a), ratOf(t, b)))
	})
}

// A sum less one of its parts is the other part, and a difference and what was taken away are what there was.
func TestNumSumsComeBack(t *testing.T) {
	t.Parallel()
	eachPair(func(a string, b string) {
		if sum, ok := impl.AddNum(a, b); ok {
			got, ok := impl.SubNum(sum, a)
			told(t, "the sum less "+short(a), got, ok, b)
		}
		if rest, ok := impl.SubNum(a, b); ok {
			got, ok := impl.AddNum(rest, b)
			told(t, "the difference and "+short(b), got, ok, a)
		}
	})
}

// A product by one of its factors is the other one, and a quotient times the divisor is what was divided.
func TestNumProductsComeBack(t *testing.T) {
	t.Parallel()
	eachPair(func(a string, b string) {
		if b == "0" {
			return
		}
		if product, ok := impl.MulNum(a, b); ok {
			got, ok := impl.DivNum(product, b)
			told(t, "the product by "+short(b), got, ok, a)
		}
		if quotient, ok := impl.DivNum(a, b); ok {
			got, ok := impl.MulNum(quotient, b)
			told(t, "the quotient times "+short(b), got, ok, a)
		}
	})
}

// Outcomes that are too long only until they are in lowest terms, told by what they are then; without a want they stay so.
func TestNumsAtMaxDigits(t *testing.T) {
	sixes := strings.Repeat("6", 600)
	threes := strings.Repeat("3", 600)
	type two = func(string, string) (string, bool)
	rows := []struct {
		name string
		f    two
		a, b string
		want string
	}{
		{"AddNum", impl.AddNum, nines(600) + "/2", nines(600) + "/2", nines(600)},
		{"AddNum", impl.AddNum, "1/" + sixes, "1/" + sixes, "1/" + threes},
		{"AddNum", impl.AddNum, "1/" + sixes, "1/" + threes, "1/" + strings.Repeat("2", 600)},
		{"AddNum", impl.AddNum, nines(599) + "8", "1", nines(600)},
		{"AddNum", impl.AddNum, nines(600), "1", ""},
		{"AddNum", impl.AddNum, nines(600), "1/2", ""},
		{"AddNum", impl.AddNum, "-" + nines(600), "-1", ""},
		{"AddNum", impl.AddNum, "1/" + nines(600), "1/2", ""},
		{"AddNum", impl.AddNum, "1/" + sixes, "1/" + one(599), ""},
		{"SubNum", impl.SubNum, nines(600) + "/2", "-" + nines(600) + "/2", nines(600)},
		{"SubNum", impl.SubNum, "-1/" + sixes, "1/" + sixes, "-1/" + threes},
		{"SubNum", impl.SubNum, "-" + nines(599) + "8", "1", "-" + nines(600)},
		{"SubNum", impl.SubNum, "-" + nines(600), "1", ""},
		{"SubNum", impl.SubNum, nines(600), "-1", ""},
		{"SubNum", impl.SubNum, "1/2", "1/" + nines(600), ""},
		{"MulNum", impl.MulNum, nines(600), "2/3", sixes},
		{"MulNum", impl.MulNum, "1/" + nines(600), "3/2", "1/" + sixes},
		{"MulNum", impl.MulNum, "-" + nines(600) + "/2", "2/" + nines(600), "-1"},
		{"MulNum", impl.MulNum, nines(600), "20/3", ""},
		{"MulNum", impl.MulNum, nines(600), "-2", ""},
		{"MulNum", impl.MulNum, "1/" + nines(600), "3/20", ""},
		{"MulNum", impl.MulNum, "1/" + nines(600), "1/2", ""},
		{"MulNum", impl.MulNum, one(599), "10", ""},
		{"DivNum", impl.DivNum, nines(600), "3/2", sixes},
		{"DivNum", impl.DivNum, "-1/" + nines(600), "2/3", "-1/" + sixes},
		{"DivNum", impl.DivNum, nines(600), "-" + nines(600) + "/2", "-2"},
		{"DivNum", impl.DivNum, nines(600), "1/2", ""},
		{"DivNum", impl.DivNum, nines(600), "-3/20", ""},
		{"DivNum", impl.DivNum, "1/" + nines(600), "2", ""},
		{"DivNum", impl.DivNum, "1/" + one(599), "10", ""},
	}
	for _, r := range rows {
		got, ok := r.f(r.a, r.b)
		what := r.name + " " + short(r.a) + " " + short(r.b)
		if r.want == "" {
			refused(t, what, got, ok)
		} else {
			told(t, what, got, ok, r.want)
		}
	}
}

func TestCompareNum(t *testing.T) {
	t.Parallel()
	rows := []struct {
		a, b string
		want int
	}{
		{"0", "0", 0}, {"0", "1/2", -1}, {"0", "-1/2", 1}, {"-1", "1", -1}, {"1/2", "1/3", 1}, {"-1/2", "-1/3", -1}, {"1/2", "1/2", 0}, {"-2", "-10", 1},
		{"999998/999999", "999997/999998", 1}, {"-999998/999999", "-999997/999998", -1}, {"1000000/999999", "1000001/1000000", 1},
		{nines(600), "-" + nines(600), 1}, {"1/" + nines(600), "0", 1}, {"-1/" + nines(600), "0", -1}, {"1/" + nines(600), "1/" + one(599), -1},
		{nines(600) + "/" + one(599), "10", -1}, {one(599) + "/" + nines(600), "1/10", 1}, {nines(600), nines(600), 0},
	}
	for _, r := range rows {
		if got, ok := impl.CompareNum(r.a, r.b); got != r.want || !ok {
			t.Errorf("CompareNum(%s, %s): %d, %v; wanted %d", short(r.a), short(r.b), got, ok, r.want)
		}
	}
	eachPair(func(a string, b string) {
		got, ok := impl.CompareNum(a, b)
		back, okBack := impl.CompareNum(b, a)
		if got != ratOf(t, a).Cmp(ratOf(t, b)) || back != -got || !ok || !okBack {
			t.Errorf("CompareNum(%s, %s): %d, %v; the other way round %d, %v", short(a), short(b), got, ok, back, okBack)
		}
	})
}

func TestFloorNum(t *testing.T) {
	rows := [][2]string{
		{"0", "0"}, {"5", "5"}, {"-5", "-5"}, {"7/2", "3"}, {"-7/2", "-4"}, {"1/2", "0"}, {"-1/2", "-1"}, {"-1/" + nines(600), "-1"}, {"1/" + nines(600), "0"},
		{"-999999999999/1000000000000", "-1"}, {"-1999999/2", "-1000000"}, {nines(600), nines(600)}, {"-" + nines(600), "-" + nines(600)},
		{nines(600) + "/2", "4" + nines(599)}, {"-" + nines(600) + "/2", "-5" + strings.Repeat("0", 599)}, {nines(600) + "/" + one(599), "9"},
		{"-" + nines(600) + "/" + one(599), "-10"},
	}
	for _, r := range rows {
		got, ok := impl.FloorNum(r[0])
		told(t, "FloorNum "+short(r[0]), got, ok, r[1])
	}
}

// A number is no less than its floor, which is whole, and less than the next whole number.
func TestFloorsAreBelow(t *testing.T) {
	d := &dice{state: 19}
	list := append(smallNums(), nums()...)
	for range 500 {
		list = append(list, d.num(1+d.below(40), d.below(40)))
	}
	for _, a := range list {
		floor, ok := impl.FloorNum(a)
		if !ok || !impl.GoodNum(floor) || strings.Contains(floor, "/") {
			t.Errorf("FloorNum(%s): %s, %v", short(a), short(floor), ok)
			continue
		}
		low, ok := impl.CompareNum(floor, a)
		if low > 0 || !ok || low < 0 == !strings.Contains(a, "/") {
			t.Errorf("FloorNum(%s) is %s", short(a), short(floor))
		}
		next, ok := impl.AddNum(floor, "1")
		if high, okHigh := impl.CompareNum(a, next); ok && (high != -1 || !okHigh) {
			t.Errorf("FloorNum(%s) is %s", short(a), short(floor))
		}
	}
}

func TestQuotientNum(t *testing.T) {
	rows := [][4]string{
		{"7", "2", "3", "1"}, {"-7", "2", "-3", "-1"}, {"7", "-2", "-3", "1"}, {"-7", "-2", "3", "-1"}, {"0", "5", "0", "0"}, {"0", "-5", "0", "0"},
		{"6", "-3", "-2", "0"}, {"-6", "3", "-2", "0"}, {"-6", "-3", "2", "0"}, {"-1", "2", "0", "-1"}, {"1", "-2", "0", "1"}, {"-1", "-2", "0", "-1"},
		{nines(600), "-1", "-" + nines(600), "0"}, {"-" + nines(600), one(599), "-9", "-" + nines(599)}, {nines(599), "-" + nines(600), "0", nines(599)},
		{"-" + nines(600), "-" + nines(600), "1", "0"},
	}
	for _, r := range rows {
		quotient, left, ok := impl.QuotientNum(r[0], r[1])
		told(t, "QuotientNum "+short(r[0])+" "+short(r[1]), quotient, ok, r[2])
		told(t, "left of QuotientNum "+short(r[0])+" "+short(r[1]), left, ok, r[3])
	}
	wrong := [][2]string{{"1", "0"}, {"0", "0"}, {"-1", "0"}, {nines(600), "0"}, {"1/2", "1"}, {"1", "1/2"}, {"-7/2", "-3/2"}, {"0", "1/2"}, {"1/2", "0"}}
	for _, r := range wrong {
		quotient, left, ok := impl.QuotientNum(r[0], r[1])
		refused(t, "QuotientNum "+short(r[0])+" "+short(r[1]), quotient+left, ok)
	}
}

// Quotient times divisor and what is left make the number; what is left is smaller than the divisor and has a's sign, or is 0.
func TestQuotientsComeBack(t *testing.T) {
	t.Parallel()
	eachPair(func(a string, b string) {
		quotient, left, ok := impl.QuotientNum(a, b)
		if strings.Contains(a+b, "/") || b == "0" {
			refused(t, "QuotientNum "+short(a)+" "+short(b), quotient+left, ok)
			return
		}
		product, okMul := impl.MulNum(quotient, b)
		sum, okAdd := impl.AddNum(product, left)
		if !ok || !okMul || !okAdd || sum != a || !impl.GoodNum(quotient) || !impl.GoodNum(left) {
			t.Errorf("QuotientNum(%s, %s): %s, %s, %v", short(a), short(b), short(quotient), short(left), ok)
		}
		order, okOrder := impl.CompareNat(strings.TrimPrefix(left, "-"), strings.TrimPrefix(b, "-"))
		if order != -1 || !okOrder || left != "0" && left[0] == '-' != (a[0] == '-') {
			t.Errorf("QuotientNum(%s, %s) leaves %s", short(a), short(b), short(left))
		}
	})
}
