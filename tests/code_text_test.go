package tests

import (
	"fmt"
	"math"
	"regexp"
	"slices"
	"strconv"
	"strings"
	"testing"

	"loop.example/g00201/impl"
)

// codeLine is what a line of code looks like, but for how great its numbers are and how long its Text is.
var codeLine = regexp.MustCompile(`^([1-9]|1[0-3]) (0|[1-9][0-9]{0,5}) ([^\n]*)$`)

// modelReadCode is what ReadCode should answer.
func modelReadCode(text string) ([]impl.Instr, bool) {
	if text == "" {
		return nil, true
	}
	lines := strings.Split(text, "\n")
	end := len(lines) - 1
	if lines[end] != "" || end > 3000 {
		return nil, false
	}
	var out []impl.Instr
	for _, line := range lines[:end] {
		found := codeLine.FindStringSubmatch(line)
		if found == nil || len(found[3]) > 1500 {
			return nil, false
		}
		op, _ := strconv.Atoi(found[1])
		a, _ := strconv.Atoi(found[2])
		if a > 100000 {
			return nil, false
		}
		out = append(out, impl.Instr{Op: op, A: a, Text: found[3]})
	}
	return out, true
}

// readCodeAsModel holds ReadCode against the model, and what it reads against its text; it tells whether it is code.
func readCodeAsModel(t *testing.T, text string) bool {
	t.Helper()
	got, ok := impl.ReadCode(text)
	want, wantOk := modelReadCode(text)
	if ok != wantOk || !slices.Equal(got, want) {
		t.Errorf("ReadCode(%q): %v, %v; wanted %v, %v", short(text), got, ok, want, wantOk)
	}
	if ok {
		if again, ok := impl.CodeText(got); again != text || !ok {
			t.Errorf("%q comes back as %q, %v", short(text), short(again), ok)
		}
	}
	return ok
}

// codeTexts are instructions and their text.
var codeTexts = []struct {
	code []impl.Instr
	text string
}{
	{nil, ""}, {[]impl.Instr{}, ""},
	{[]impl.Instr{{Op: 1}}, "1 0 \n"}, {[]impl.Instr{{Op: 2, Text: "x"}}, "2 0 x\n"}, {[]impl.Instr{{Op: 13, A: 100000, Text: "a b"}}, "13 100000 a b\n"}, {[]impl.Instr{{Op: 9, A: 7}, {Op: 10, A: 12}}, "9 7 \n10 12 \n"},
	{[]impl.Instr{{Op: 1, Text: " "}}, "1 0  \n"}, {[]impl.Instr{{Op: 1, Text: "  x  "}}, "1 0   x  \n"}, {[]impl.Instr{{Op: 1, Text: "\t\r\x00\xff"}}, "1 0 \t\r\x00\xff\n"}, {[]impl.Instr{{Op: 1, Text: "1 0 x"}}, "1 0 1 0 x\n"}, {[]impl.Instr{{Op: 6, A: 99999, Text: "é"}}, "6 99999 é\n"}, {[]impl.Instr{{Op: 1, Text: `"a\n"`}}, "1 0 \"a\\n\"\n"},
	{[]impl.Instr{{Op: 1, Text: "1"}, {Op: 12}, {Op: 13}}, "1 0 1\n12 0 \n13 0 \n"},
}

func TestCodeTexts(t *testing.T) {
	for _, row := range codeTexts {
		if text := comeBack(t, row.code); text != row.text {
			t.Errorf("%v: %q; wanted %q", row.code, text, row.text)
		}
		readCodeAsModel(t, row.text)
	}
	// Every Op with every edge of A, and Texts of every byte.
	for op := 1; op <= 13; op++ {
		for _, a := range []int{0, 1, 9, 10, 99999, 100000} {
			for _, text := range []string{"", " ", "x", strings.Repeat("x", 1499), strings.Repeat("x", 1500), strings.Repeat(" ", 1500)} {
				got := comeBack(t, []impl.Instr{{Op: op, A: a, Text: text}})
				if want := fmt.Sprintf("%d %d %s\n", op, a, text); got != want {
					t.Errorf("%q; wanted %q", short(got), short(want))
				}
			}
			noCodeText(t, []impl.Instr{{Op: op, A: a, Text: strings.Repeat("x", 1501)}})
			noCodeRead(t, fmt.Sprintf("%d %d %s\n", op, a, strings.Repeat("x", 1501)))
		}
		for b := range 256 {
			l := []impl.Instr{{Op: op, Text: string([]byte{'a', byte(b), 'c'})}, {Op: op, Text: string([]byte{byte(b)})}}
			if b == 10 {
				noCodeText(t, l)
				noCodeText(t, l[:1])
				noCodeText(t, l[1:])
			} else {
				comeBack(t, l)
			}
		}
	}
}

// One instruction that is not as said, alone, ahead of others and behind them, leaves no text.
func TestNoCodeTexts(t *testing.T) {
	good := impl.Instr{Op: impl.OpName, Text: "x"}
	wrong := []impl.Instr{{}, {Op: 0, Text: "x"}, {Op: 14}, {Op: -1}, {Op: 100}, {Op: 1, A: -1}, {Op: 1, A: 100001}, {Op: 13, A: 1000000}, {Op: 1, Text: "\n"}, {Op: 1, Text: "a\n"}, {Op: 1, Text: "\na"}, {Op: 1, Text: "a\nb"}, {Op: 1, Text: strings.Repeat("a", 1501)}, {Op: 1, Text: strings.Repeat("a", 1500) + "\n"}, {Op: 1, Text: strings.Repeat("a", 1<<20)}, {Op: 14, A: -1, Text: "\n"}}
	for _, n := range append(wrongInts(), math.MinInt32+1, 1<<32+1, 256+1) {
		wrong = append(wrong, impl.Instr{Op: n})
		if n < 0 || n > 100000 {
			wrong = append(wrong, impl.Instr{Op: 1, A: n}, impl.Instr{Op: 13, A: n})
		}
	}
	for _, i := range wrong {
		noCodeText(t, []impl.Instr{i})
		noCodeText(t, []impl.Instr{good, i})
		noCodeText(t, []impl.Instr{i, good})
		noCodeText(t, []impl.Instr{good, i, good})
		noCodeText(t, append(slices.Repeat([]impl.Instr{good}, 2999), i))
	}
}

func TestManyInstructions(t *testing.T) {
	for _, many := range []int{1, 2, 2999, 3000} {
		for _, i := range []impl.Instr{{Op: 1}, {Op: 13, A: 100000, Text: strings.Repeat("t", 1500)}} {
			l := slices.Repeat([]impl.Instr{i}, many)
			text := comeBack(t, l)
			if want := strings.Repeat(fmt.Sprintf("%d %d %s\n", i.Op, i.A, i.Text), many); text != want {
				t.Errorf("%d of %d: %d bytes", many, i.Op, len(text))
			}
			if many+1 > 3000 {
				noCodeText(t, append(l, i))
				noCodeRead(t, text+text[:len(text)/many])
			}
		}
	}
	noCodeText(t, make([]impl.Instr, 3001))
	noCodeText(t, slices.Repeat([]impl.Instr{{Op: 1}}, 1<<20))
	noCodeRead(t, strings.Repeat("1 0 \n", 1<<20))
}

// Texts that are nearly code's.
func TestNearlyCode(t *testing.T) {
	for _, text := range []string{
		"\n", " ", "  ", "1", "1 ", "1 0", "1 0 ", "1 0 x", "1\n", "1 \n", "1 0\n", "10 \n", "1  \n", " 0 \n", " 1 0 \n", "\n1 0 \n", "1 0 \n\n", "1 0 \n\n1 0 \n", "1 0 \n1 0 ", "1 0 \n1 0", "1 0 \n ", "1 0 \n1", "x 0 \n", "1 x \n", "x\n", "1 0 \nx", "1 0 x\ny\n", "1-0 \n", "1\t0\t\n", "1 0\t\n", "1\r0 \n",
		"01 0 \n", "1 00 \n", "1 01 \n", "+1 0 \n", "1 +0 \n", "1 +1 \n", "-1 0 \n", "1 -0 \n", "1 -1 \n", "0 0 \n", "14 0 \n", "00 0 \n", "013 0 \n", "1 100001 \n", "1 0100000 \n", "1 1000000 \n", "1 99999999999999999999 \n", "99999999999999999999 0 \n", "18446744073709551617 0 \n", "1 18446744073709551616 \n", "4294967297 0 \n", "257 0 \n", "1.0 0 \n", "1 0.0 \n", "1e0 0 \n", "0x1 0 \n", "1 0x0 \n", "1_0 0 \n", "1 1_0 \n", "1 1_000 \n", "１ 0 \n", "1 ٠ \n", "a 0 \n", "1 a \n", "1\x00 0 \n", "1 0\x00 \n",
		"1 0 " + strings.Repeat("x", 1501) + "\n", strings.Repeat("1", 1<<20) + " 0 \n", "1 " + strings.Repeat("0", 1<<20) + " \n", strings.Repeat(" ", 1<<20), strings.Repeat("\n", 1<<20), strings.Repeat("\n", 3000), strings.Repeat("x", 1<<20),
		"2 0 x\r\n" + "2 0 y", "1 0 \n 1 0 \n", "\xef\xbb\xbf1 0 \n",
	} {
		noCodeRead(t, text)
		if readCodeAsModel(t, text) {
			t.Errorf("%q is code", text)
		}
		noCodeRead(t, "1 0 \n"+text)
		noCodeRead(t, text+"1 0")
	}
	for _, text := range []string{"1 0 \n", "1 0 x\r\n", "13 0 \x00\n", "1 0   \n", "1 100000 \n", "9 10 \n", "1 0 +1\n", "1 0 01\n"} {
		if !readCodeAsModel(t, text) {
			t.Errorf("%q is no code", text)
		}
	}
}

// Every change of one byte of a text, and every byte taken out or put in, is read as the model reads it.
func TestChangedCodeTexts(t *testing.T) {
	l, _ := impl.CompileForms("(define (f n) (if (= n 0) '(a . \"b\\n\") (f (- n 1)))) (f 10)")
	text := comeBack(t, l)
	good := 0
	count := func(changed string) {
		if readCodeAsModel(t, changed) {
			good++
		}
	}
	for at := range len(text) {
		count(text[:at] + text[at+1:])
		count(text[:at])
		for _, b := range []byte("0129 \n-+x\r\x00\xff") {
			count(text[:at] + string([]byte{b}) + text[at+1:])
			count(text[:at] + string([]byte{b}) + text[at:])
		}
	}
	if good < 200 {
		t.Error("only", good, "texts were code")
	}
}

// Texts and instructions of any bytes and ints come back, or have no answer.
func TestAnyCode(t *testing.T) {
	d := &dice{state: 607}
	good := 0
	for range 40000 {
		text := ""
		for range d.below(14) {
			text += string("0123456789 \n \nx\xff"[d.below(16)])
		}
		if d.below(2) == 0 {
			text = fmt.Sprintf("%d %d %s\n", d.below(15), d.below(3)*50000+d.below(2), text)
		}
		if readCodeAsModel(t, text) {
			good++
		}
		l := make([]impl.Instr, d.below(4))
		told := true
		for at := range l {
			l[at] = impl.Instr{Op: d.below(18) - 1, A: d.below(100005) - 2, Text: []string{"", "a", " b ", "1 0 ", "\xff"}[d.below(5)]}
			told = told && l[at].Op >= 1 && l[at].Op <= 13 && l[at].A >= 0 && l[at].A <= 100000
		}
		if told {
			comeBack(t, l)
		} else {
			noCodeText(t, l)
		}
	}
	if good < 5000 {
		t.Error("only", good, "texts were code")
	}
}
