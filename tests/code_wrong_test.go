package tests

import (
	"bytes"
	"slices"
	"strings"
	"testing"
	"time"
	"unsafe"

	"loop.example/g00201/impl"
)

// Fuel of any size: outside of 0..MaxFuel nothing runs.
func TestCodeWrongFuel(t *testing.T) {
	for _, fuel := range append(wrongInts(), -1, impl.MaxFuel+1, 2*impl.MaxFuel) {
		if fuel >= 0 && fuel <= impl.MaxFuel {
			continue
		}
		for _, text := range []string{"", "1", "(car 1)", "(if)", "\xff", "(define (f) (f)) (f)", strings.Repeat("(", 1<<20)} {
			isNoCode(t, text, fuel)
		}
	}
	for _, fuel := range []int{1, 2, impl.MaxFuel - 1, impl.MaxFuel} {
		if got := codeRun("", fuel); got != (coded{}) {
			t.Errorf("no forms with fuel %d: %+v", fuel, got)
		}
	}
	isNoCode(t, "(define (f) (f)) (f) (if)", 0)
}

// Texts of any bytes, and of any words, are answered as the models answer them.
func TestCodeOfAnyBytes(t *testing.T) {
	d := &dice{state: 617}
	words := append([]string{"(", "(", "(", "(", ")", ")", ")", ")", "'", ".", "x", "y", "1", "0", "2/3", "\"a\"", "#t", "#f", "()", "'()", "(x)", "(lambda (x)", "(define x", ";", "\n", "\xff"}, toolNames()...)
	words = append(words, keywords...)
	ran := 0
	for n := range 20000 {
		text := ""
		for range d.below(16) {
			if n%4 == 0 {
				text += string([]byte{byte(d.below(256))})
			} else {
				text += words[d.below(len(words))] + " "
			}
		}
		if n%4 == 3 {
			text = strings.Repeat("(", max(0, strings.Count(text, ")")-strings.Count(text, "("))) + text
			text += strings.Repeat(")", max(0, strings.Count(text, "(")-strings.Count(text, ")")))
		}
		if got := codeAsModel(t, text, d.below(200)); got.code == impl.RunOk && got.told != "" {
			ran++
		}
		codeAsSteps(t, text, 200)
		want, code := modelCode(text)
		if got, gotCode := impl.CompileForms(text); gotCode != code || !slices.Equal(got, want) {
			t.Errorf("%q: %v, %d; wanted %v, %d", text, got, gotCode, want, code)
		}
		readCodeAsModel(t, text)
	}
	if ran < 400 {
		t.Errorf("only %d texts tell something", ran)
	}
}

// given is a text in memory that has more behind it, and a look at whether all of that stays as it is.
func given(text string) (string, []byte, func() bool) {
	memory := []byte(text + "\n1 0 \n(display \"behind\") \"")
	before := bytes.Clone(memory)
	return unsafe.String(unsafe.SliceData(memory), len(text)), memory, func() bool { return bytes.Equal(memory, before) }
}

// What is answered is new memory, and the text that is given stays as it is, what is behind it too.
func TestCodeSharesNothingWithTexts(t *testing.T) {
	for _, text := range []string{"", "1", "12345678901234567890", "symbol", "'symbol", "\"a string\"", "'(a list)", "(lambda (aa bb . cc) bb)", "(define name 1)", "(set! name 'name)", "(display \"a\")", "(car 1)", "nowhere", "(begin 'abc)", "(if)", "(define (f) (f)) (f)"} {
		text, memory, same := given(text)
		want, wantCode := impl.CompileForms(strings.Clone(text))
		l, code := impl.CompileForms(text)
		for _, i := range l {
			if inside(i.Text, memory) {
				t.Errorf("%q: %v shares memory with the text", text, i)
			}
		}
		told, _ := impl.RunByCode(text, impl.MaxFuel)
		impl.WidthsOf(text, impl.MaxFuel)
		if inside(told, memory) || !same() || code != wantCode || !slices.Equal(l, want) {
			t.Errorf("%q: an answer shares memory with the text, or it was written into", text)
		}
	}
	for _, text := range []string{"", "1 0 \n", "2 0 name\n", "1 0 \"a long text\"\n13 0 \n", "1 0 x", "1 0", "x", "8 100000 (a . b)\n2 0 \xff\n"} {
		text, memory, same := given(text)
		want, wantOk := impl.ReadCode(strings.Clone(text))
		l, ok := impl.ReadCode(text)
		for _, i := range l {
			if inside(i.Text, memory) {
				t.Errorf("%q: %v shares memory with the text", text, i)
			}
		}
		if !same() || ok != wantOk || !slices.Equal(l, want) {
			t.Errorf("%q was written into, or what is behind it is read", text)
		}
	}
}

// Instructions that are given are not written into; what is behind their length is neither read nor handed out.
func TestCodeIsNotWritten(t *testing.T) {
	for _, text := range []string{"", "1", "(if a (lambda () 1) (f 2))", "(define (f n) (if (= n 0) 0 (f (- n 1)))) (f 10)"} {
		code, _ := impl.CompileForms(text)
		l := append(slices.Clone(code), impl.Instr{Op: 1, Text: "behind"}, impl.Instr{Op: 99, A: -1, Text: "\n"})
		before := slices.Clone(l)
		told, ok := impl.CodeText(l[:len(code)])
		if want, _ := impl.CodeText(code); told != want || !ok || strings.Contains(told, "behind") || !slices.Equal(l, before) {
			t.Errorf("%s: %q, %v", text, told, ok)
		}
		noCodeText(t, l)
	}
	name := []byte("a name that is long enough to stand alone")
	text, _ := impl.CodeText([]impl.Instr{{Op: impl.OpName, Text: unsafe.String(&name[0], len(name))}})
	if inside(text, name) {
		t.Error("a text shares memory with a Text of its code")
	}
}

// An answer that is written into by whoever asked changes no other one.
func TestCodeAnswersAreAlone(t *testing.T) {
	for _, ask := range []func() []impl.Instr{
		func() []impl.Instr {
			l, _ := impl.CompileForms("(define (f x) (if x (lambda () x) 1)) (f 1)")
			return l
		},
		func() []impl.Instr {
			l, _ := impl.ReadCode("1 0 a\n2 5 b\n13 0 \n")
			return l
		},
	} {
		first := ask()
		kept := slices.Clone(first)
		for at := range first {
			first[at] = impl.Instr{Op: 77, A: -7, Text: "\n"}
		}
		if second := ask(); !slices.Equal(second, kept) {
			t.Errorf("%v; wanted %v", second, kept)
		}
	}
	for range 3 {
		codeTells(t, "x (define x 1) (define car cdr) (car '(1 2)) x", "error unbound\n(2)\n1\n")
		codeTells(t, "x (car '(1 2))", "error unbound\n1\n")
		hasWidths(t, "(+ 1 2)", 3, 0)
		hasWidths(t, "1", 1, 0)
		codeTells(t, "(define-syntax m (syntax-rules () ((_) 1))) (m)", "1\n")
		codeTells(t, "(m)", "error unbound\n")
	}
}

// What takes long is answered in good time.
func TestCodeInGoodTime(t *testing.T) {
	d := &dice{state: 619}
	heavy := d.num(590, 590)
	loop := func(body string) string { return "(define (f) (begin " + body + " (f))) (f)" }
	long := "(define (g l n) (if (= n 0) l (g (append l l) (- n 1)))) (define l (g '(1 2) 12)) (define m (g '(1 2) 11)) "
	inTime(t, 120*time.Second, func() {
		for _, text := range []string{
			"(define x " + heavy + ") " + loop("(+ x x x x x x x x x x x x x x x x)"), "(define x " + heavy + ") " + loop("(* x 1/3)"), "(define x " + heavy + ") " + loop("(< x x x x x x x x x x x x x x x x)"), "(define x " + nines(590) + ") " + loop("(quotient (* 7 x) 3)"), "(define (f n) (f (* n n))) (f 3) " + loop("(* 1 2)"),
			long + loop("(equal? l l)"), long + loop("(equal? l (cons 1 (cdr l)))"), long + loop("(length l)"), long + loop("(apply (lambda (a . b) a) l)"), long + loop("(apply (lambda a 1) l)"), long + loop("(append '() l)"), long + loop("(equal? l m)"), long + loop("(apply + l)"), long + loop("(apply - m)"), long + loop("(apply <= (cons 1 m))"),
			loop("(call/cc (lambda (k) k))"), loop("'(1 2 3 4 5 6 7 8 9)"), loop("(lambda (x) x)"), loop("(define x 1)"),
			"(define k 0) (begin (call/cc (lambda (c) (set! k c))) (k 1))", "(define (f) (call/cc (lambda (k) (f)))) (f)", "(define (f) (call/cc (lambda (k) (list k (f))))) (f)", "(define (f x) (f (lambda () x))) (f 1)", "(define (f x) (f (list x x))) (f 1)", "(define (f) (list (f))) (f)", "(define l '()) (define (f n) (begin (call/cc (lambda (k) (set! l (cons k l)))) (if (> n 900) (f n) (list (f (+ n 1)))))) (f 0)",
			"((lambda (x) (x x)) (lambda (x) (x x)))", "((lambda (x) (x (x x))) (lambda (x) (x (x x))))", "(define (d x n) (if (= n 0) x (d (cons x x) (- n 1)))) (display (d 1 200))",
		} {
			codeRunsOut(t, text, impl.MaxFuel)
		}
		for _, part := range append([]string{"(", ")", "'", "(car ", "(lambda x ", "1 ", ";", "\xff", "(display 1)", "1 0 \n", "1 0 1 0 ", "13 100000 x\n"}, toolNames()...) {
			for _, many := range []int{1, 20, 100, 1 << 18} {
				text := strings.Repeat(part, many)
				codeRun(text, impl.MaxFuel)
				codeRun(text+strings.Repeat(")", many), impl.MaxFuel)
				impl.CompileForms(text)
				impl.ReadCode(text)
				impl.CodeText([]impl.Instr{{Op: 1, Text: text}})
			}
		}
	})
}
