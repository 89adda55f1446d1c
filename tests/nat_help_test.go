package tests

import (
	"math/big"
	"strings"
	"testing"
	"time"
)

// dice gives the same numbers in every run.
type dice struct {
	state uint64
}

func (d *dice) below(n int) int {
	d.state = d.state*6364136223846793005 + 1442695040888963407
	return int((d.state >> 33) % uint64(n))
}

// nat makes a natural number of just so many digits; now and then one with long runs of 0 and 9, where carries go far.
func (d *dice) nat(digits int) string {
	text := make([]byte, digits)
	runs := d.below(3) == 0
	for at := range text {
		text[at] = byte('0' + d.below(10))
		if runs && at > 0 && d.below(20) > 0 {
			text[at] = text[at-1]
		} else if runs {
			text[at] = "0919"[d.below(4)]
		}
	}
	if digits > 1 && text[0] == '0' {
		text[0] = byte('1' + d.below(9))
	}
	return string(text)
}

// samples are numbers with all kinds of lengths, the edges among them.
func samples() []string {
	d := &dice{state: 7}
	out := []string{
		"0", "1", "2", "7", "9", "10", "16", "99", "100", "255", "256", "65536",
		"999999", "1000000", "1000001", "999999999999", "1000000000000", "999999000000", "1000000999999",
		"99999999", "100000000", "999999999", "1000000000", "9223372036854775807", "9223372036854775808",
		"18446744073709551615", "18446744073709551616",
		nines(300), nines(301), nines(599), nines(600), one(299), one(300), one(301), one(598), one(599),
		strings.Repeat("5", 600), "4" + nines(599), "5" + strings.Repeat("0", 599),
	}
	for _, digits := range []int{1, 2, 5, 6, 7, 8, 9, 11, 12, 13, 17, 18, 19, 20, 24, 36, 60, 100, 150, 299, 300, 301, 594, 599, 600} {
		out = append(out, d.nat(digits), d.nat(digits))
	}
	return out
}

func nines(many int) string { return strings.Repeat("9", many) }

// one is 1 and so many noughts.
func one(noughts int) string { return "1" + strings.Repeat("0", noughts) }

func bigOf(t *testing.T, s string) *big.Int {
	t.Helper()
	n, ok := new(big.Int).SetString(s, 10)
	if !ok {
		t.Fatalf("no number: %q", s)
	}
	return n
}

func short(s string) string {
	if len(s) > 60 {
		return s[:30] + ".." + s[len(s)-30:]
	}
	return s
}

// told holds what a function of one text answered against what is asked.
func told(t *testing.T, what string, got string, ok bool, want string) {
	t.Helper()
	if got != want || !ok {
		t.Errorf("%s: %q, %v; wanted %q, true", what, short(got), ok, short(want))
	}
}

// toldIfShort asks for n where it is a natural number, and for the zero answer otherwise.
func toldIfShort(t *testing.T, what string, got string, ok bool, n *big.Int) {
	t.Helper()
	want := n.String()
	if n.Sign() >= 0 && len(want) <= 600 {
		told(t, what, got, ok, want)
	} else {
		refused(t, what, got, ok)
	}
}

// refused asks for the zero answer.
func refused(t *testing.T, what string, got string, ok bool) {
	t.Helper()
	if got != "" || ok {
		t.Errorf("%s: %q, %v; wanted the zero answer", what, short(got), ok)
	}
}

// inTime fails a test whose calls do not end.
func inTime(t *testing.T, limit time.Duration, work func()) {
	t.Helper()
	done := make(chan bool)
	go func() {
		defer close(done)
		work()
	}()
	select {
	case <-done:
	case <-time.After(limit):
		t.Fatal("no answer in good time")
	}
}
