package tests

import (
	"bytes"
	"strings"
	"testing"
	"time"
	"unsafe"

	"loop.example/g00201/impl"
)

// Fuel of any size: outside of 0..MaxFuel nothing runs.
func TestWrongFuel(t *testing.T) {
	for _, fuel := range append(wrongInts(), -1, impl.MaxFuel+1, 2*impl.MaxFuel) {
		if fuel >= 0 && fuel <= impl.MaxFuel {
			continue
		}
		for _, text := range []string{"", "1", "(car 1)", "(if)", "\xff", "(define (f) (f)) (f)", strings.Repeat("(", 1<<20)} {
			isNoRun(t, text, fuel)
		}
	}
	for _, fuel := range []int{0, 1, impl.MaxFuel - 1, impl.MaxFuel} {
		if got := runText("", fuel); got != (ran{}) {
			t.Errorf("no forms with fuel %d: %+v", fuel, got)
		}
	}
}

// Texts of any bytes, and of any words, are answered as the model answers them.
func TestRunsOfAnyBytes(t *testing.T) {
	d := &dice{state: 97}
	words := append([]string{"(", "(", "(", "(", ")", ")", ")", ")", "'", ".", "x", "y", "1", "0", "2/3", "\"a\"", "#t", "#f", "()", "'()", "(x)", "(lambda (x)", "(define x", ";", "\n", "\xff"}, toolNames()...)
	words = append(words, keywords...)
	ran := 0
	for n := range 20000 {
		text := ""
		for range d.below(16) {
			if n%4 == 0 {
				text += string([]byte{byte(d.below(256))})
			} else {
				text += words[d.below(len(words))] + " "
			}
		}
		if n%4 == 3 {
			text = strings.Repeat("(", max(0, strings.Count(text, ")")-strings.Count(text, "("))) + text
			text += strings.Repeat(")", max(0, strings.Count(text, "(")-strings.Count(text, ")")))
		}
		if got := runAsModel(t, text, d.below(200)); got.code == impl.RunOk && got.told != "" {
			ran++
		}
		impl.IsPrimitive(text)
	}
	if ran < 500 {
		t.Errorf("only %d texts tell something", ran)
	}
}

// inside tells whether a text lies in the memory of another one.
func inside(a string, b []byte) bool {
	if a == "" || len(b) == 0 {
		return false
	}
	at, from := uintptr(unsafe.Pointer(unsafe.StringData(a))), uintptr(unsafe.Pointer(&b[0]))
	return at+uintptr(len(a)) > from && at < from+uintptr(cap(b))
}

// What is answered is new memory, and the text that is given stays as it is, what is behind it too.
func TestRunsShareNothing(t *testing.T) {
	for _, text := range []string{"", "1", "12345678901234567890", "'symbol", "\"a string\"", "'(a list)", "#t", "car", "nowhere", "(display \"a\")", "(write 'a)", "(car 1)", "(quote 1/2)", "(begin 'abc)", "(if)", "(define (f) (f)) (f)"} {
		memory := []byte(text + "(display \"behind\") \"")
		kept := bytes.Clone(memory)
		given := unsafe.String(unsafe.SliceData(memory), len(text))
		want := runText(strings.Clone(text), impl.MaxFuel)
		told, _ := impl.RunForms(given, impl.MaxFuel)
		last, _ := impl.ValueOf(given, impl.MaxFuel)
		impl.StepsOf(given, impl.MaxFuel)
		impl.IsPrimitive(given)
		if inside(told, memory) || inside(last, memory) {
			t.Errorf("%q: an answer shares memory with the text", text)
		}
		if !bytes.Equal(memory, kept) {
			t.Errorf("%q: the text was written into", text)
		}
		if told != want.told || last != want.last {
			t.Errorf("%q: %q and %q; wanted %+v", text, told, last, want)
		}
	}
}

// One run leaves nothing behind for the next one.
func TestRunsAreAlone(t *testing.T) {
	for range 3 {
		tells(t, "x (define x 1) (define car cdr) (car '(1 2)) x", "error unbound\n(2)\n1\n")
		tells(t, "x (car '(1 2))", "error unbound\n1\n")
		takes(t, "(+ 1 2)", 7)
		tells(t, "(define-syntax m (syntax-rules () ((_) 1))) (m)", "1\n")
		tells(t, "(m)", "error unbound\n")
	}
}

// What takes long is answered in good time.
func TestRunsInGoodTime(t *testing.T) {
	d := &dice{state: 101}
	heavy := d.num(590, 590)
	loop := func(body string) string { return "(define (f) (begin " + body + " (f))) (f)" }
	long := "(define (g l n) (if (= n 0) l (g (append l l) (- n 1)))) (define l (g '(1 2) 12)) (define m (g '(1 2) 11)) "
	inTime(t, 120*time.Second, func() {
		for _, text := range []string{
			"(define x " + heavy + ") " + loop("(+ x x x x x x x x x x x x x x x x)"),
			"(define x " + heavy + ") " + loop("(* x 1/3)"),
			"(define x " + heavy + ") " + loop("(< x x x x x x x x x x x x x x x x)"),
			"(define x " + nines(590) + ") " + loop("(quotient (* 7 x) 3)"),
			"(define (f n) (f (* n n))) (f 3) " + loop("(* 1 2)"),
			long + loop("(equal? l l)"), long + loop("(equal? l (cons 1 (cdr l)))"), long + loop("(length l)"), long + loop("(apply (lambda (a . b) a) l)"), long + loop("(append '() l)"), long + loop("(equal? l m)"), long + loop("(apply + l)"), long + loop("(apply - m)"),
			loop("(call/cc (lambda (k) k))"), loop("'(1 2 3 4 5 6 7 8 9)"), loop("(lambda (x) x)"), loop("(define x 1)"),
			"(define k 0) (begin (call/cc (lambda (c) (set! k c))) (k 1))", "(define (f) (call/cc (lambda (k) (f)))) (f)", "(define (f x) (f (lambda () x))) (f 1)", "(define (f x) (f (list x x))) (f 1)", "(define (f) (list (f))) (f)",
			"((lambda (x) (x x)) (lambda (x) (x x)))", "((lambda (x) (x (x x))) (lambda (x) (x (x x))))", "(define (d x n) (if (= n 0) x (d (cons x x) (- n 1)))) (display (d 1 200))",
		} {
			runsOut(t, text, impl.MaxFuel)
		}
		for _, part := range append([]string{"(", ")", "'", "(car ", "(lambda x ", "1 ", ";", "\xff", "(display 1)"}, toolNames()...) {
			for _, many := range []int{1, 20, 100, 1 << 18} {
				text := strings.Repeat(part, many)
				runText(text, impl.MaxFuel)
				runText(text+strings.Repeat(")", many), impl.MaxFuel)
				impl.IsPrimitive(text)
			}
		}
	})
}
