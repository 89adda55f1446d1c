package tests

import (
	"fmt"
	"math"
	"strings"
	"testing"
	"time"

	"loop.example/g00201/impl"
)

// wrongNats are texts that are no natural numbers.
func wrongNats() []string {
	out := []string{
		"", "00", "01", "007", "+1", "-1", "-0", "+0", "-", "+", " ", " 1", "1 ", "1\n", "\n", "1\x00", "\x00", "\xff", "1\x80",
		"a", "f", "F", "1a", "0x10", "#x1", "1.0", "1/2", "1e3", "1_000", "1,000", "/", ":", "1:", "1/", "٣", "１", "²",
		strings.Repeat("0", 600), one(600), nines(601), strings.Repeat("0", 601), nines(1201), nines(100000),
		"-" + nines(599), nines(599) + "x", "x" + nines(599), nines(300) + "\x00" + nines(299), "0" + nines(599),
	}
	for c := range 256 {
		if c < '0' || c > '9' {
			out = append(out, string([]byte{byte(c)}), string([]byte{'1', byte(c)}), string([]byte{byte(c), '1'}))
		}
	}
	return out
}

func wrongInts() []int {
	return []int{math.MinInt, math.MinInt + 1, math.MinInt32, -1 << 32, -2001, -2000, -16, -10, -8, -2, -1, 2001, 1 << 31, 1<<32 + 2, 1<<32 + 10, math.MaxInt - 1, math.MaxInt}
}

// twoNats are the functions of two natural numbers, all answers but the bool told as one text.
func twoNats() map[string]func(string, string) (string, bool) {
	return map[string]func(string, string) (string, bool){
		"AddNat": impl.AddNat, "SubNat": impl.SubNat, "MulNat": impl.MulNat, "GcdNat": impl.GcdNat,
		"CompareNat": func(a string, b string) (string, bool) {
			order, ok := impl.CompareNat(a, b)
			if order == 0 {
				return "", ok
			}
			return fmt.Sprint(order), ok
		},
		"DivNat": func(a string, b string) (string, bool) {
			quotient, left, ok := impl.DivNat(a, b)
			return quotient + left, ok
		},
	}
}

func TestWrongNats(t *testing.T) {
	good := []string{"0", "1", "5", "1000000", nines(600)}
	for name, f := range twoNats() {
		for _, wrong := range wrongNats() {
			for _, right := range good {
				got, ok := f(wrong, right)
				refused(t, fmt.Sprintf("%s(%q, %q)", name, short(wrong), short(right)), got, ok)
				got, ok = f(right, wrong)
				refused(t, fmt.Sprintf("%s(%q, %q)", name, short(right), short(wrong)), got, ok)
			}
			got, ok := f(wrong, wrong)
			refused(t, fmt.Sprintf("%s(%q, %q)", name, short(wrong), short(wrong)), got, ok)
		}
	}
}

func TestWrongPowers(t *testing.T) {
	for _, wrong := range wrongNats() {
		for _, n := range append(wrongInts(), 0, 1, 2, 2000) {
			got, ok := impl.PowNat(wrong, n)
			refused(t, fmt.Sprintf("PowNat(%q, %d)", short(wrong), n), got, ok)
		}
	}
	for _, a := range []string{"0", "1", "2", nines(600)} {
		for _, n := range wrongInts() {
			got, ok := impl.PowNat(a, n)
			refused(t, fmt.Sprintf("PowNat(%q, %d)", short(a), n), got, ok)
		}
	}
}

func wrongRadixes() []int {
	out := wrongInts()
	for radix := range 70 {
		if radix != 2 && radix != 8 && radix != 10 && radix != 16 {
			out = append(out, radix)
		}
	}
	return out
}

func TestWrongRadixes(t *testing.T) {
	for _, a := range []string{"0", "1", "10", nines(600)} {
		for _, radix := range wrongRadixes() {
			got, ok := impl.ToRadix(a, radix)
			refused(t, fmt.Sprintf("ToRadix(%q, %d)", short(a), radix), got, ok)
			got, ok = impl.OfRadix(a, radix)
			refused(t, fmt.Sprintf("OfRadix(%q, %d)", short(a), radix), got, ok)
		}
	}
	for _, wrong := range wrongNats() {
		for _, radix := range append(wrongRadixes(), radixes()...) {
			got, ok := impl.ToRadix(wrong, radix)
			refused(t, fmt.Sprintf("ToRadix(%q, %d)", short(wrong), radix), got, ok)
		}
	}
}

// Each byte is a digit just where the radix has it.
func TestOfRadixOfAllBytes(t *testing.T) {
	for _, radix := range radixes() {
		for c := range 256 {
			worth := strings.IndexByte("0123456789abcdef", byte(c))
			if c >= 'A' && c <= 'F' {
				worth = c - 'A' + 10
			}
			got, ok := impl.OfRadix("1"+string([]byte{byte(c)}), radix)
			what := fmt.Sprintf("OfRadix(1 and byte %d, %d)", c, radix)
			if worth >= 0 && worth < radix {
				told(t, what, got, ok, fmt.Sprint(radix+worth))
			} else {
				refused(t, what, got, ok)
			}
		}
	}
}

// The greatest arguments, and texts of a megabyte, are answered at once.
func TestNatsInGoodTime(t *testing.T) {
	long := strings.Repeat("1", 1<<20)
	inTime(t, 20*time.Second, func() {
		for name, f := range twoNats() {
			for range 50 {
				f(nines(600), strings.Repeat("7", 600))
				f(nines(600), strings.Repeat("7", 301))
			}
			got, ok := f(long, long)
			refused(t, name, got, ok)
		}
		for range 50 {
			impl.PowNat("2", 1993)
			impl.PowNat("0", 2000)
			impl.ToRadix(nines(600), 2)
			impl.OfRadix(strings.Repeat("1", 1993), 2)
		}
		got, ok := impl.PowNat(long, 2000)
		refused(t, "PowNat", got, ok)
		got, ok = impl.ToRadix(long, 2)
		refused(t, "ToRadix", got, ok)
		got, ok = impl.OfRadix(long, 2)
		refused(t, "OfRadix", got, ok)
	})
}
