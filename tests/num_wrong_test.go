package tests

import (
	"fmt"
	"strings"
	"testing"
	"time"

	"loop.example/g00201/impl"
)

// wrongNums are texts that are no numbers, or no number's one form.
func wrongNums() []string {
	out := []string{
		"", "-", "+", "/", "-/", "1/", "-1/", "/1", "/2", "-/2", "//", "1//2", "1/2/3", "1/2/", "--1", "++1", "+-1", "-+1", "1-", "1/-2", "1/+2", "-1/-2",
		"-0", "+0", "+1", "+1/2", "0/1", "0/2", "-0/1", "-0/2", "0/0", "1/0", "-1/0", "2/0", "1/1", "-1/1", "7/1", "0/7", "2/4", "-2/4", "4/2", "3/3", "6/9", "10/5",
		"00", "01", "-01", "01/2", "1/02", "1/00", "-00", "1/01", "#x1", "#d1", "#d-1/2", "0x1", "a", "1a", "1/a", "1.5", "1e3", ".", "1/2.0", "1_0",
		" ", " 1", "1 ", "1 /2", "1/ 2", "- 1", "1\n", "1/2\n", "1\x00", "1/2\x00", "\x00", "\xff", "1/\xff", "１", "−1", "½",
		one(600), "-" + one(600), "1/" + one(600), "-1/" + nines(601), nines(601) + "/2", nines(600) + "/" + one(600), nines(601) + "/" + nines(602), nines(1201),
		nines(600) + "/" + nines(600), nines(600) + "/" + nines(300), nines(600) + "/9", "3/" + nines(600), strings.Repeat("0", 600), "1/" + strings.Repeat("0", 600),
		"0" + nines(599), "1/0" + nines(599), nines(600) + "/1", nines(600) + "/0", nines(600) + "/", "/" + nines(600),
	}
	for c := range 256 {
		if c < '0' || c > '9' {
			text := string([]byte{byte(c)})
			out = append(out, text, "1"+text, "1/7"+text, "1/"+text+"7")
			if c != '-' {
				out = append(out, text+"1")
			}
			if c != '/' {
				out = append(out, "1"+text+"7")
			}
		}
	}
	return out
}

// twoNums are the functions of two numbers, all answers but the bool told as one text.
func twoNums() map[string]func(string, string) (string, bool) {
	return map[string]func(string, string) (string, bool){
		"AddNum": impl.AddNum, "SubNum": impl.SubNum, "MulNum": impl.MulNum, "DivNum": impl.DivNum,
		"CompareNum": func(a string, b string) (string, bool) {
			order, ok := impl.CompareNum(a, b)
			if order == 0 {
				return "", ok
			}
			return fmt.Sprint(order), ok
		},
		"QuotientNum": func(a string, b string) (string, bool) {
			quotient, left, ok := impl.QuotientNum(a, b)
			return quotient + left, ok
		},
	}
}

func TestWrongNums(t *testing.T) {
	t.Parallel()
	good := []string{"0", "1", "-5", "1/2", "-1000000", nines(600)}
	for name, f := range twoNums() {
		for _, wrong := range wrongNums() {
			for _, right := range good {
				got, ok := f(wrong, right)
				refused(t, fmt.Sprintf("%s(%q, %q)", name, short(wrong), short(right)), got, ok)
				got, ok = f(right, wrong)
				refused(t, fmt.Sprintf("%s(%q, %q)", name, short(right), short(wrong)), got, ok)
			}
			got, ok := f(wrong, wrong)
			refused(t, fmt.Sprintf("%s(%q, %q)", name, short(wrong), short(wrong)), got, ok)
		}
	}
}

func TestWrongNumsAlone(t *testing.T) {
	for _, wrong := range wrongNums() {
		got, ok := impl.FloorNum(wrong)
		refused(t, fmt.Sprintf("FloorNum(%q)", short(wrong)), got, ok)
		for _, radix := range append(wrongInts(), 0, 1, 2, 8, 10, 16) {
			got, ok := impl.NumText(wrong, radix)
			refused(t, fmt.Sprintf("NumText(%q, %d)", short(wrong), radix), got, ok)
		}
	}
}

func TestMakeNumOfWrongNats(t *testing.T) {
	for _, wrong := range wrongNats() {
		for _, right := range []string{"0", "1", "5", "1000000", nines(600)} {
			for _, neg := range []bool{false, true} {
				got, ok := impl.MakeNum(neg, wrong, right)
				refused(t, fmt.Sprintf("MakeNum(%v, %q, %q)", neg, short(wrong), short(right)), got, ok)
				got, ok = impl.MakeNum(neg, right, wrong)
				refused(t, fmt.Sprintf("MakeNum(%v, %q, %q)", neg, short(right), short(wrong)), got, ok)
			}
		}
	}
}

// Whatever is read is a number, and comes back from its own text.
func TestReadNumOfAnyText(t *testing.T) {
	d := &dice{state: 23}
	read := 0
	for range 200000 {
		text := make([]byte, 1+d.below(7))
		for at := range text {
			text[at] = "#xobd+-/0127aF"[d.below(14)]
		}
		got, ok := impl.ReadNum(string(text))
		if !ok {
			refused(t, fmt.Sprintf("ReadNum(%q)", text), got, ok)
			continue
		}
		read++
		if again, okAgain := impl.ReadNum(got); !impl.GoodNum(got) || again != got || !okAgain {
			t.Errorf("ReadNum(%q): %q, which is no number", text, got)
		}
	}
	if read < 1000 {
		t.Error("only", read, "were read")
	}
}

// Numbers with the longest tops and bottoms, and texts of a megabyte, are answered at once.
func TestNumsInGoodTime(t *testing.T) {
	d := &dice{state: 29}
	a, b := d.num(600, 600), d.num(600, 600)
	digits := strings.Repeat("1", 1<<20)
	strokes := strings.Repeat("/", 1<<20)
	inTime(t, 20*time.Second, func() {
		for name, f := range twoNums() {
			for range 20 {
				f(a, b)
				f(nines(600), "-"+strings.Repeat("7", 301))
			}
			for _, long := range []string{digits, strokes, "-" + digits, "1/" + digits, digits + "/" + digits} {
				got, ok := f(long, long)
				refused(t, name, got, ok)
			}
		}
		for range 20 {
			impl.FloorNum(a)
			impl.NumText(a, 2)
			impl.ReadNum(a)
			impl.MakeNum(true, nines(600), strings.Repeat("7", 599))
		}
		for _, long := range []string{digits, strokes, "#x" + digits, "#b-" + digits, "1/" + digits, strings.Repeat("#x", 1<<19), strings.Repeat("-", 1<<20)} {
			for _, f := range []func(string) (string, bool){impl.ReadNum, impl.FloorNum} {
				got, ok := f(long)
				refused(t, "a long text", got, ok)
			}
			got, ok := impl.NumText(long, 16)
			refused(t, "NumText", got, ok)
			got, ok = impl.MakeNum(false, long, long)
			refused(t, "MakeNum", got, ok)
		}
	})
}
