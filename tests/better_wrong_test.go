package tests

import (
	"math"
	"slices"
	"strings"
	"testing"
	"time"
	"unsafe"

	"loop.example/g00201/impl"
)

// wrongInstrs are instructions that CodeText does not tell.
func wrongInstrs() []impl.Instr {
	var out []impl.Instr
	for _, n := range append(wrongInts(), -1, 0, 14, 15, 255, 256, 1<<8+1, 1<<32+1) {
		out = append(out, impl.Instr{Op: n}, impl.Instr{Op: n, A: 1, Text: "x"})
	}
	for op := impl.OpConst; op <= impl.OpStop; op++ {
		for _, a := range []int{math.MinInt, -100000, -1, 100001, 1 << 32, math.MaxInt} {
			out = append(out, impl.Instr{Op: op, A: a})
		}
		for _, text := range []string{"\n", "x\n", "\nx", "a\nb", strings.Repeat("x", impl.MaxText+1), strings.Repeat("\xff", 1<<20)} {
			out = append(out, impl.Instr{Op: op, Text: text})
		}
	}
	return out
}

// Instructions that CodeText does not tell have no depths and no calls, wherever they stand, also where nothing comes.
func TestBetterOfWrongInstructions(t *testing.T) {
	for _, wrong := range wrongInstrs() {
		for _, text := range []string{"stop", "jump 0", "const 1|end|stop", "const 1|end|stop|call 0|tail 0", "jump 2|const 1|stop", "lambda 4 x|call 0|end|stop|const 1|return"} {
			l := written(text)
			for at := range len(l) + 1 {
				hasNoDepths(t, slices.Insert(slices.Clone(l), at, wrong))
				hasNoCalls(t, slices.Insert(slices.Clone(l), at, wrong))
			}
		}
		hasNoDepths(t, []impl.Instr{wrong})
		hasNoCalls(t, []impl.Instr{wrong})
	}
	for _, i := range []impl.Instr{{Op: impl.OpStop}, {Op: impl.OpJump}, {Op: impl.OpCall}, {Op: impl.OpConst}, {}} {
		hasNoDepths(t, slices.Repeat([]impl.Instr{i}, impl.MaxCode+1))
		hasNoCalls(t, slices.Repeat([]impl.Instr{i}, impl.MaxCode+1))
	}
}

// Just within what CodeText tells.
func TestBetterOfInstructionsAtTheirLimits(t *testing.T) {
	long := strings.Repeat("x", impl.MaxText)
	hasDepths(t, []impl.Instr{{Op: impl.OpConst, A: 100000, Text: long}, {Op: impl.OpEnd, A: 100000, Text: long}, {Op: impl.OpStop, A: 100000, Text: long}, {Op: impl.OpCall, A: 100000, Text: long}, {Op: impl.OpTail, A: 100000, Text: "\x00\r\xff"}}, "0 1 0 - -")
	hasCalls(t, []impl.Instr{{Op: impl.OpCall, A: 100000, Text: long}, {Op: impl.OpTail, A: 100000, Text: "\x00\r\xff"}, {Op: impl.OpConst, A: 100000}}, 1, 1)
}

// Compiled code of which any fields are changed.
func TestBetterOfAnyFields(t *testing.T) {
	d := &dice{state: 1553}
	ints := append(wrongInts(), -1, 0, 1, 1, 2, 3, 4, 5, 7, 9, 10, 12, 13, 14, 100000, 100001)
	told, none := 0, 0
	for _, text := range drawnCore(1559, 4000) {
		l, _ := impl.CompileForms(text)
		for range d.below(3) {
			if len(l) == 0 {
				break
			}
			i := &l[d.below(len(l))]
			switch d.below(3) {
			case 0:
				i.Op = ints[d.below(len(ints))]
			case 1:
				i.A = ints[d.below(len(ints))]
			default:
				i.Text = []string{"", "\n", "x", strings.Repeat("x", 1500), strings.Repeat("x", 1501)}[d.below(5)]
			}
		}
		callsAsModel(t, l)
		if depthsAsModel(t, l) {
			told++
		} else {
			none++
		}
	}
	if told < 1000 || none < 1000 {
		t.Errorf("%d have depths, %d have not", told, none)
	}
}

// Texts of any bytes, and of any words, are answered as the models answer them.
func TestBetterOfAnyBytes(t *testing.T) {
	t.Parallel()
	d := &dice{state: 1567}
	words := append([]string{"(", "(", "(", "(", ")", ")", ")", ")", "'", ".", "x", "y", "1", "#t", "#f", "()", "'()", "(x)", "(lambda (x)", "(lambda x", "(define x", "(set! y", "(if #f", "(if x", "(begin", "(begin 1", ";", "\n", "\xff", "\"a\""}, coreWords...)
	words = append(words, keywords...)
	core := 0
	for n := range 30000 {
		text := ""
		for range d.below(16) {
			if n%4 == 0 {
				text += string([]byte{byte(d.below(256))})
			} else {
				text += words[d.below(len(words))] + " "
			}
		}
		if n%4 == 3 {
			text = strings.Repeat("(", max(0, strings.Count(text, ")")-strings.Count(text, "("))) + text
			text += strings.Repeat(")", max(0, strings.Count(text, "(")-strings.Count(text, ")")))
		}
		if _, ok := foldsAsModel(t, d, text); ok && strings.Contains(text, "(") {
			core++
		}
		freeAsModel(t, text)
		countAsModel(t, text)
	}
	if core < 500 {
		t.Errorf("only %d texts are core forms", core)
	}
}

// Instructions that are given are not written into; what is behind their length is neither read nor handed out; an answer
// that is written over by whoever asked changes nothing of them, and no other answer.
func TestDepthsWriteNothing(t *testing.T) {
	var all [][]impl.Instr
	for _, row := range toldDepths {
		all = append(all, written(row[0]))
	}
	all = append(all, nil, []impl.Instr{{}}, written("const 1|jump 4|stop"))
	for _, plain := range all {
		for _, behind := range [][]impl.Instr{{{Op: impl.OpStop}, {Op: impl.OpStop}}, {{Op: impl.OpCall}, {Op: impl.OpTail}, {Op: impl.OpEnd}, {Op: impl.OpStop}}, {{Op: 99, A: -5, Text: "\n"}, {}}} {
			l, same := roomy(plain, behind...)
			want, wantOk := impl.DepthsOf(slices.Clone(plain))
			got, ok := impl.DepthsOf(l)
			other, _ := impl.DepthsOf(l)
			if ok != wantOk || !slices.Equal(got, want) {
				t.Errorf("DepthsOf(%v) with something behind: %v, %v; wanted %v", plain, got, ok, want)
			}
			isEmptyBehind(t, got)
			fill(got, 77)
			callsAsModel(t, l)
			if !slices.Equal(other, want) || !same() {
				t.Errorf("DepthsOf(%v): an answer shares memory with it or with another answer", plain)
			}
		}
	}
}

// What is answered is new memory, and the text that is given stays as it is, what is behind it too.
func TestBetterSharesNothingWithTexts(t *testing.T) {
	for _, plain := range []string{"", "1", "12345678901234567890", "a-long-symbol", "'a-long-symbol", "\"a string\"", "'(a list)", "(lambda (aa bb . cc) dd)", "(set! some-name other-name)", "(begin 1 a-name-alone)", "(if #f (f) some-name)", "(begin a (begin b c))", "x y z", "(if", "(if)", "(let ((x 1)) x)", strings.Repeat("a", 1500)} {
		text, memory, same := given(plain)
		folded, ok := impl.FoldForms(text)
		if want, wantOk := impl.FoldForms(strings.Clone(plain)); folded != want || ok != wantOk || inside(folded, memory) {
			t.Errorf("FoldForms(%q): %q, %v; wanted %q in memory of its own", plain, folded, ok, want)
		}
		names, ok := impl.FreeNames(text)
		want, wantOk := impl.FreeNames(strings.Clone(plain))
		if !slices.Equal(names, want) || ok != wantOk || slices.ContainsFunc(names, func(name string) bool { return inside(name, memory) }) {
			t.Errorf("FreeNames(%q): %v, %v; wanted %v in memory of their own", plain, names, ok, want)
		}
		many, ok := impl.CountCode(text)
		if want, wantOk := impl.CountCode(strings.Clone(plain)); many != want || ok != wantOk {
			t.Errorf("CountCode(%q): %d, %v; wanted %d", plain, many, ok, want)
		}
		if !same() {
			t.Errorf("%q was written into", plain)
		}
	}
}

func TestFreeNamesAreAlone(t *testing.T) {
	for _, row := range freeInTexts {
		first, _ := impl.FreeNames(row[0])
		second, _ := impl.FreeNames(row[0])
		isEmptyBehind(t, first)
		fill(first, "written over")
		isFreeIn(t, row[0], row[1])
		if !slices.Equal(second, strings.Fields(row[1])) {
			t.Errorf("FreeNames(%q): %v shares memory with another answer", row[0], second)
		}
		for at, name := range second {
			for _, other := range second[:at] {
				if unsafe.StringData(name) == unsafe.StringData(other) && len(name) > 1 {
					t.Errorf("FreeNames(%q): %s and %s are in one place", row[0], other, name)
				}
			}
		}
	}
}

// What is asked for again is answered as at first.
func TestBetterKeepsNothing(t *testing.T) {
	for range 3 {
		foldsTo(t, "(begin 1 (if #f a b))", "b")
		foldsNot(t, "(begin")
		isFreeIn(t, "(lambda (x) (x y))", "y")
		isFreeIn(t, "x", "x")
		namesNot(t, "(lambda (x))")
		hasDepths(t, written("const 1|end|stop"), "0 1 0")
		hasNoDepths(t, written("const 1|stop"))
		hasCalls(t, written("call 1|tail 1"), 1, 1)
		countAsModel(t, "(f 1)")
		countAsModel(t, "(if)")
	}
}

// What takes long is answered in good time.
func TestBetterInGoodTime(t *testing.T) {
	inTime(t, 60*time.Second, func() {
		for op := -1; op < 16; op++ {
			for _, a := range []int{0, 1, 2999, 3000, math.MaxInt, math.MinInt} {
				for _, many := range []int{impl.MaxCode, 1 << 18} {
					l := slices.Repeat([]impl.Instr{{Op: op, A: a}}, many)
					impl.DepthsOf(l)
					impl.CallsIn(l)
				}
			}
		}
		for range 50 {
			// Each goes to two places, so there are more ways than could be gone one by one.
			l := slices.Repeat([]impl.Instr{{Op: impl.OpConst}, {Op: impl.OpFalse}}, impl.MaxCode/2)
			for at := range l {
				l[at].A = (at + 1) % len(l)
			}
			depthsAsModel(t, l)
			for at := range l {
				l[at] = impl.Instr{Op: impl.OpLambda, A: (at + 2) % len(l)}
			}
			depthsAsModel(t, l)
		}
		for _, part := range append([]string{"(", ")", "'", "(begin ", "(begin 1 ", "(if #f ", "(if 1 ", "(lambda x ", "(lambda (x) ", "(set! x ", "1 ", "x ", ";", "\xff", "(begin 1)", "(f x)", "\"", "#"}, keywords...) {
			for _, many := range []int{1, 12, 24, 25, 26, 100, 250, 300, 1 << 18} {
				for _, text := range []string{strings.Repeat(part, many), strings.Repeat(part, many) + strings.Repeat(")", many), strings.Repeat(part, many) + "1" + strings.Repeat(" 2)", many), strings.Repeat(part, many) + "1" + strings.Repeat(" 2 3)", many)} {
					impl.FoldForms(text)
					impl.FreeNames(text)
					impl.CountCode(text)
				}
			}
		}
	})
}
