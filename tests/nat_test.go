package tests

import (
	"fmt"
	"math/big"
	"strings"
	"testing"

	"loop.example/g00201/impl"
)

func TestMaxDigits(t *testing.T) {
	if impl.MaxDigits != 600 {
		t.Error(impl.MaxDigits)
	}
}

func TestGoodNat(t *testing.T) {
	for _, s := range samples() {
		if !impl.GoodNat(s) {
			t.Errorf("GoodNat(%q) is false", short(s))
		}
	}
	for _, s := range wrongNats() {
		if impl.GoodNat(s) {
			t.Errorf("GoodNat(%q) is true", short(s))
		}
	}
}

func TestCompareNat(t *testing.T) {
	rows := []struct {
		a, b string
		want int
	}{
		{"0", "0", 0}, {"0", "1", -1}, {"1", "0", 1}, {"9", "10", -1}, {"10", "9", 1}, {"123", "124", -1},
		{"1000000", "999999", 1}, {"1000001", "2000000", -1}, {"2000000", "1000001", 1},
		{nines(599), one(599), -1}, {one(599), nines(600), -1}, {nines(600), nines(600), 0},
		{nines(599) + "8", nines(600), -1}, {nines(600), nines(599) + "8", 1},
	}
	for _, r := range rows {
		if got, ok := impl.CompareNat(r.a, r.b); got != r.want || !ok {
			t.Errorf("CompareNat(%s, %s): %d, %v; wanted %d", short(r.a), short(r.b), got, ok, r.want)
		}
	}
	for _, a := range samples() {
		for _, b := range samples() {
			if got, ok := impl.CompareNat(a, b); got != bigOf(t, a).Cmp(bigOf(t, b)) || !ok {
				t.Errorf("CompareNat(%s, %s): %d, %v", short(a), short(b), got, ok)
			}
		}
	}
}

func TestAddNat(t *testing.T) {
	rows := [][3]string{
		{"0", "0", "0"}, {"0", "7", "7"}, {"7", "0", "7"}, {"5", "5", "10"}, {"999999", "1", "1000000"},
		{"1", "999999999999", "1000000000000"}, {nines(599), "1", one(599)}, {nines(599) + "8", "1", nines(600)},
	}
	for _, r := range rows {
		got, ok := impl.AddNat(r[0], r[1])
		told(t, "AddNat "+short(r[0])+" "+short(r[1]), got, ok, r[2])
	}
	for _, r := range [][2]string{{nines(600), "1"}, {"1", nines(600)}, {nines(600), nines(600)}, {"5" + one(598), "5" + one(598)}} {
		got, ok := impl.AddNat(r[0], r[1])
		refused(t, "AddNat "+short(r[0])+" "+short(r[1]), got, ok)
	}
	for _, a := range samples() {
		for _, b := range samples() {
			got, ok := impl.AddNat(a, b)
			toldIfShort(t, "AddNat "+short(a)+" "+short(b), got, ok, new(big.Int).Add(bigOf(t, a), bigOf(t, b)))
		}
	}
}

func TestSubNat(t *testing.T) {
	rows := [][3]string{
		{"0", "0", "0"}, {"7", "0", "7"}, {"7", "7", "0"}, {"10000", "1", "9999"}, {"1000000", "1", "999999"},
		{"1000000000000", "1", "999999999999"}, {"1000000000000", "999999999999", "1"},
		{one(599), "1", nines(599)}, {nines(600), nines(600), "0"}, {nines(600), "0", nines(600)},
	}
	for _, r := range rows {
		got, ok := impl.SubNat(r[0], r[1])
		told(t, "SubNat "+short(r[0])+" "+short(r[1]), got, ok, r[2])
	}
	for _, r := range [][2]string{{"0", "1"}, {"9", "10"}, {"999999", "1000000"}, {"1", nines(600)}, {nines(599) + "8", nines(600)}} {
		got, ok := impl.SubNat(r[0], r[1])
		refused(t, "SubNat "+short(r[0])+" "+short(r[1]), got, ok)
	}
	for _, a := range samples() {
		for _, b := range samples() {
			got, ok := impl.SubNat(a, b)
			toldIfShort(t, "SubNat "+short(a)+" "+short(b), got, ok, new(big.Int).Sub(bigOf(t, a), bigOf(t, b)))
		}
	}
}

func TestSumsComeBack(t *testing.T) {
	for _, a := range samples() {
		for _, b := range samples() {
			sum, ok := impl.AddNat(a, b)
			if !ok {
				continue
			}
			got, ok := impl.SubNat(sum, a)
			told(t, "the sum less a", got, ok, b)
			got, ok = impl.SubNat(sum, b)
			told(t, "the sum less b", got, ok, a)
		}
	}
}

func TestMulNat(t *testing.T) {
	rows := [][3]string{
		{"0", "0", "0"}, {"0", nines(600), "0"}, {nines(600), "0", "0"}, {"1", nines(600), nines(600)}, {"12", "12", "144"},
		{"999999", "999999", "999998000001"}, {"99999999", "99999999", "9999999800000001"},
		{nines(300), nines(300), nines(299) + "8" + strings.Repeat("0", 299) + "1"},
		{one(299), one(300), one(599)},
	}
	for _, r := range rows {
		got, ok := impl.MulNat(r[0], r[1])
		told(t, "MulNat "+short(r[0])+" "+short(r[1]), got, ok, r[2])
	}
	for _, r := range [][2]string{{one(300), one(300)}, {nines(600), "2"}, {"10", one(599)}, {nines(600), nines(600)}} {
		got, ok := impl.MulNat(r[0], r[1])
		refused(t, "MulNat "+short(r[0])+" "+short(r[1]), got, ok)
	}
	for _, a := range samples() {
		for _, b := range samples() {
			got, ok := impl.MulNat(a, b)
			toldIfShort(t, "MulNat "+short(a)+" "+short(b), got, ok, new(big.Int).Mul(bigOf(t, a), bigOf(t, b)))
		}
	}
}

func TestProductsComeBack(t *testing.T) {
	for _, a := range samples() {
		for _, b := range samples() {
			product, ok := impl.MulNat(a, b)
			if !ok || b == "0" {
				continue
			}
			got, left, ok := impl.DivNat(product, b)
			told(t, "the product by "+short(b), got, ok, a)
			told(t, "left of the product by "+short(b), left, ok, "0")
		}
	}
}

func TestDivNat(t *testing.T) {
	rows := [][4]string{
		{"0", "1", "0", "0"}, {"7", "2", "3", "1"}, {"1", "2", "0", "1"}, {"1000000007", "12345", "81004", "5627"},
		{"1000000000000", "1000000", "1000000", "0"}, {"1000000000000", "1000001", "999999", "1"},
		{"999999999999999999", "1000000999999", "999999", "1999998"},
		{nines(600), "1", nines(600), "0"}, {nines(600), nines(600), "1", "0"}, {nines(599), nines(600), "0", nines(599)},
		{nines(600), one(599), "9", nines(599)}, {one(599), nines(300), one(299), one(299)},
	}
	for _, r := range rows {
		quotient, left, ok := impl.DivNat(r[0], r[1])
		told(t, "DivNat "+short(r[0])+" "+short(r[1]), quotient, ok, r[2])
		told(t, "left of DivNat "+short(r[0])+" "+short(r[1]), left, ok, r[3])
	}
	for _, a := range samples() {
		quotient, left, ok := impl.DivNat(a, "0")
		refused(t, "DivNat by 0", quotient+left, ok)
	}
}

// The quotient times the divisor and what is left make the number, and what is left is less than the divisor.
func checkDivision(t *testing.T, a string, b string) {
	t.Helper()
	quotient, left, ok := impl.DivNat(a, b)
	product, okMul := impl.MulNat(quotient, b)
	sum, okAdd := impl.AddNat(product, left)
	order, okOrder := impl.CompareNat(left, b)
	if !ok || !okMul || !okAdd || !okOrder || sum != a || order != -1 {
		t.Errorf("DivNat(%s, %s): %s, %s, %v", a, b, quotient, left, ok)
	}
	q, r := new(big.Int).QuoRem(bigOf(t, a), bigOf(t, b), new(big.Int))
	if quotient != q.String() || left != r.String() {
		t.Errorf("DivNat(%s, %s): %s, %s; wanted %s, %s", a, b, quotient, left, q, r)
	}
}

func TestDivisionsComeBack(t *testing.T) {
	for _, a := range samples() {
		for _, b := range samples() {
			if b != "0" {
				checkDivision(t, a, b)
			}
		}
	}
	d := &dice{state: 11}
	for range 20000 {
		b := d.nat(1 + d.below(60))
		if b != "0" {
			checkDivision(t, d.nat(1+d.below(120)), b)
		}
	}
}

// Numbers just below a multiple of the divisor, with runs of 0 and 9, are where a quotient is most easily guessed too great.
func TestDivisionsNearMultiples(t *testing.T) {
	d := &dice{state: 13}
	for range 5000 {
		b := bigOf(t, fmt.Sprint(1+d.below(9))+strings.Repeat("0", d.below(15))+d.nat(1+d.below(20)))
		q := bigOf(t, d.nat(1+d.below(30)))
		a := new(big.Int).Mul(b, q)
		a.Add(a, big.NewInt(int64(d.below(3)-1)))
		if a.Sign() >= 0 {
			checkDivision(t, a.String(), b.String())
		}
	}
}

func TestGcdNat(t *testing.T) {
	rows := [][3]string{
		{"0", "0", "0"}, {"0", "5", "5"}, {"5", "0", "5"}, {"12", "18", "6"}, {"18", "12", "6"}, {"7", "7", "7"}, {"17", "4", "1"},
		{nines(600), nines(600), nines(600)}, {nines(600), "0", nines(600)}, {nines(600), nines(400), nines(200)}, {"1", nines(600), "1"},
	}
	for _, r := range rows {
		got, ok := impl.GcdNat(r[0], r[1])
		told(t, "GcdNat "+short(r[0])+" "+short(r[1]), got, ok, r[2])
	}
	for _, a := range samples() {
		for _, b := range samples() {
			got, ok := impl.GcdNat(a, b)
			want := new(big.Int).GCD(nil, nil, bigOf(t, a), bigOf(t, b))
			told(t, "GcdNat "+short(a)+" "+short(b), got, ok, want.String())
		}
	}
}

// Neighbours in Fibonacci's row ask for the most divisions of all numbers of their length.
func TestGcdNatOfFibonacci(t *testing.T) {
	a, b := "1", "1"
	for {
		next, ok := impl.AddNat(a, b)
		if !ok {
			break
		}
		a, b = b, next
	}
	if len(b) != 600 {
		t.Fatal(len(b))
	}
	got, ok := impl.GcdNat(a, b)
	told(t, "GcdNat of neighbours", got, ok, "1")
}

// Numbers with long divisors in common, and numbers that begin alike, so that their first parts tell little.
func TestGcdNatOfLongDivisors(t *testing.T) {
	d := &dice{state: 19}
	for n := range 20000 {
		common, a := bigOf(t, d.nat(1+d.below(60))), bigOf(t, d.nat(1+d.below(1+d.below(100))))
		b := bigOf(t, d.nat(1+d.below(1+d.below(100))))
		if n%3 == 0 {
			b.Add(a, bigOf(t, d.nat(1+d.below(30))))
		}
		a.Mul(a, common)
		b.Mul(b, common)
		want := new(big.Int).GCD(nil, nil, a, b)
		got, ok := impl.GcdNat(a.String(), b.String())
		told(t, "GcdNat "+short(a.String())+" "+short(b.String()), got, ok, want.String())
	}
}

func TestPowNat(t *testing.T) {
	rows := []struct {
		a    string
		n    int
		want string
	}{
		{"0", 0, "1"}, {"1", 0, "1"}, {"2", 0, "1"}, {nines(600), 0, "1"}, {nines(600), 1, nines(600)},
		{"0", 1, "0"}, {"0", 2000, "0"}, {"1", 2000, "1"}, {"1", 1999, "1"}, {"2", 10, "1024"}, {"2", 64, "18446744073709551616"},
		{"10", 599, one(599)}, {one(299), 2, one(598)}, {"1000", 199, one(597)},
	}
	for _, r := range rows {
		got, ok := impl.PowNat(r.a, r.n)
		told(t, fmt.Sprint("PowNat ", short(r.a), r.n), got, ok, r.want)
	}
	wrong := []struct {
		a string
		n int
	}{
		{"10", 600}, {"2", 2000}, {one(300), 2}, {nines(600), 2}, {nines(600), 2000},
		{"0", 2001}, {"1", 2001}, {"2", 2001}, {"0", -1}, {"1", -1}, {"2", -1},
	}
	for _, r := range wrong {
		got, ok := impl.PowNat(r.a, r.n)
		refused(t, fmt.Sprint("PowNat ", short(r.a), r.n), got, ok)
	}
}

func TestPowersAgainstProducts(t *testing.T) {
	for _, a := range []string{"2", "3", "7", "10", "999999", "1000000", "1000001", "123456789012345678901234567890"} {
		power := big.NewInt(1)
		for n := range 2001 {
			got, ok := impl.PowNat(a, n)
			toldIfShort(t, fmt.Sprint("PowNat ", a, n), got, ok, power)
			if len(power.String()) > 700 {
				break
			}
			power = new(big.Int).Mul(power, bigOf(t, a))
		}
	}
}

func radixes() []int { return []int{2, 8, 10, 16} }

func TestToRadix(t *testing.T) {
	rows := []struct {
		a     string
		radix int
		want  string
	}{
		{"0", 2, "0"}, {"0", 8, "0"}, {"0", 10, "0"}, {"0", 16, "0"}, {"1", 2, "1"}, {"2", 2, "10"}, {"8", 8, "10"}, {"7", 8, "7"},
		{"10", 16, "a"}, {"15", 16, "f"}, {"16", 16, "10"}, {"255", 16, "ff"}, {"255", 2, "11111111"}, {"255", 8, "377"},
		{"3735928559", 16, "deadbeef"}, {"11259375", 16, "abcdef"}, {"81985529216486895", 16, "123456789abcdef"},
		{nines(600), 10, nines(600)},
	}
	for _, r := range rows {
		got, ok := impl.ToRadix(r.a, r.radix)
		told(t, fmt.Sprint("ToRadix ", short(r.a), r.radix), got, ok, r.want)
	}
	for _, a := range samples() {
		for _, radix := range radixes() {
			got, ok := impl.ToRadix(a, radix)
			told(t, fmt.Sprint("ToRadix ", short(a), radix), got, ok, bigOf(t, a).Text(radix))
		}
	}
}

func TestOfRadix(t *testing.T) {
	rows := []struct {
		s     string
		radix int
		want  string
	}{
		{"0", 2, "0"}, {"0", 16, "0"}, {"1", 2, "1"}, {"f", 16, "15"}, {"F", 16, "15"}, {"00FF", 16, "255"}, {"aBcDeF", 16, "11259375"},
		{"000", 8, "0"}, {"377", 8, "255"}, {"0010", 10, "10"}, {"0012", 10, "12"}, {"11111111", 2, "255"},
		{strings.Repeat("0", 2000), 2, "0"}, {strings.Repeat("0", 1999) + "1", 2, "1"}, {strings.Repeat("0", 1999) + "F", 16, "15"},
		{strings.Repeat("0", 1400) + nines(600), 10, nines(600)}, {nines(600), 10, nines(600)},
	}
	for _, r := range rows {
		got, ok := impl.OfRadix(r.s, r.radix)
		told(t, fmt.Sprint("OfRadix ", short(r.s), r.radix), got, ok, r.want)
	}
}

func TestOfRadixLimits(t *testing.T) {
	rows := []struct {
		s     string
		radix int
	}{
		{"", 2}, {"", 8}, {"", 10}, {"", 16}, {strings.Repeat("0", 2001), 2}, {strings.Repeat("0", 2001), 10},
		{strings.Repeat("0", 2000) + "1", 16}, {one(600), 10}, {nines(601), 10}, {strings.Repeat("1", 2000), 2},
		{strings.Repeat("f", 2000), 16}, {strings.Repeat("7", 2000), 8}, {strings.Repeat("9", 2000), 10},
		{"2", 2}, {"8", 8}, {"9", 8}, {"a", 10}, {"A", 10}, {"g", 16}, {"G", 16}, {"@", 16}, {"`", 16}, {"/", 16}, {":", 16},
		{"1 ", 2}, {" 1", 2}, {"+1", 10}, {"-1", 10}, {"1.0", 10}, {"0x1", 16}, {"1_0", 10}, {"\x00", 2}, {"\xff", 16}, {"1\n", 8},
		{"12a", 10}, {"102", 2}, {"778", 8}, {"ffg", 16},
	}
	for _, r := range rows {
		got, ok := impl.OfRadix(r.s, r.radix)
		refused(t, fmt.Sprintf("OfRadix(%q, %d)", short(r.s), r.radix), got, ok)
	}
}

func TestDigitsComeBack(t *testing.T) {
	for _, a := range samples() {
		for _, radix := range radixes() {
			digits, ok := impl.ToRadix(a, radix)
			if !ok {
				t.Errorf("ToRadix(%s, %d) is refused", short(a), radix)
			}
			for _, s := range []string{digits, strings.ToUpper(digits), strings.Repeat("0", 2000-len(digits)) + digits} {
				got, ok := impl.OfRadix(s, radix)
				told(t, fmt.Sprint("OfRadix ", short(s), radix), got, ok, a)
			}
		}
	}
}

// The greatest natural number is read in every radix, the next one in none.
func TestOfRadixAtMaxDigits(t *testing.T) {
	most := bigOf(t, nines(600))
	above := bigOf(t, one(600))
	for _, radix := range radixes() {
		got, ok := impl.OfRadix(most.Text(radix), radix)
		told(t, fmt.Sprint("OfRadix ", radix), got, ok, nines(600))
		got, ok = impl.OfRadix(above.Text(radix), radix)
		refused(t, fmt.Sprint("OfRadix ", radix), got, ok)
	}
}

// Digits of every length are told as long as they make a natural number, and refused from then on.
func TestOfRadixOfAllLengths(t *testing.T) {
	for _, radix := range radixes() {
		for digits := 1; digits <= 2000; digits += 7 {
			s := strings.Repeat("1", digits)
			n, _ := new(big.Int).SetString(s, radix)
			got, ok := impl.OfRadix(s, radix)
			toldIfShort(t, fmt.Sprint("OfRadix ", digits, " digits of radix ", radix), got, ok, n)
		}
	}
}
