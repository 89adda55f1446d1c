package tests

import (
	"fmt"
	"slices"
	"strings"
	"testing"

	"loop.example/g00201/impl"
)

// What the forms, names, calls and jumps of chapter 5 tell is told by code, too, and in a lambda, where they are last.
func TestCodeTellsWhatStepsTell(t *testing.T) {
	for _, rows := range [][][2]string{toldForms, toldNames, toldCalls, toldJumps} {
		for _, row := range rows {
			codeTells(t, row[0], row[1])
		}
	}
	for _, row := range toldPrimitives {
		codeTells(t, row[0], row[1]+"\n")
		codeTells(t, "((lambda () "+row[0]+"))", row[1]+"\n")
		codeTells(t, "(car (list ((lambda () (begin 1 (if #t "+row[0]+" 2))))))", row[1]+"\n")
	}
	for _, v := range valueTexts {
		codeTells(t, v[0], v[1]+"\n")
		codeTells(t, "((lambda () "+v[0]+"))", v[1]+"\n")
		codeTells(t, "(write "+v[0]+")", v[1])
		codeTells(t, "(display "+v[0]+")", v[2])
	}
	for _, row := range countedForms {
		codeAsModel(t, row.text, impl.MaxFuel)
		codeAsSteps(t, row.text, impl.MaxFuel)
	}
	ahead := "(define p '(1 2)) (define q '(1 2)) (define r '(1 3)) (define f (lambda (x) (lambda () x))) (define g (lambda (x) (lambda () x))) (define k (call/cc (lambda (c) c))) "
	for _, row := range sameForms {
		lines := strings.Repeat("\n", strings.Count(row.a+row.b, "(newline)"))
		codeTells(t, ahead+"(eq? "+row.a+" "+row.b+")", lines+row.same+"\n")
		codeTells(t, ahead+"(equal? "+row.a+" "+row.b+")", lines+row.alike+"\n")
	}
}

// Every primitive with values of every kind, last and not last.
func TestCodeOfPrimitives(t *testing.T) {
	for _, tool := range tools {
		forms := []string{"(" + tool.name + ")"}
		for i, a := range kindForms {
			forms = append(forms, "("+tool.name+" "+a+")", "((lambda () ("+tool.name+" "+a+")))")
			for j, b := range kindForms {
				forms = append(forms, "("+tool.name+" "+a+" "+b+")", "("+tool.name+" "+a+" "+b+" "+kindForms[(i+j)%len(kindForms)]+")")
			}
		}
		for some := range slices.Chunk(forms, 12) {
			text := strings.Join(some, " ")
			if code, _ := codeAsSteps(t, text, impl.MaxFuel); code != impl.RunOk {
				t.Fatalf("%s does not run: %d", text, code)
			}
			codeAsModel(t, text, impl.MaxFuel)
		}
	}
}

// Every fault, in the first, a middle and the last form, and deep within one, is told and ends that form alone.
func TestCodeFaults(t *testing.T) {
	faults := map[string]string{"x": "unbound", "(set! x 1)": "unbound", "(1)": "procedure", "('car '(1))": "procedure", "(car)": "arity", "(car 1 2)": "arity", "((lambda (x) x))": "arity", "((lambda (x) x) 1 2)": "arity", "((lambda (x . y) x))": "arity", "(call/cc (lambda (k) (k)))": "arity", "(car 1)": "type", "(apply 1 '())": "type", "(apply + 1)": "type", "(call/cc 1)": "type", "(/ 0)": "divide", "(quotient 1 0)": "divide", "(* " + one(310) + " " + one(310) + ")": "number"}
	for text, name := range faults {
		line := "error " + name + "\n"
		for _, row := range [][2]string{
			{text, line}, {text + " 1 2", line + "1\n2\n"}, {"1 " + text + " 2", "1\n" + line + "2\n"}, {"1 2 " + text, "1\n2\n" + line}, {text + " " + text, line + line},
			{"(display 1) (begin (display 2) " + text + " (display 3)) (display 4)", "12" + line + "4"}, {"(list 1 (if " + text + " 2 3)) 4", line + "4\n"}, {"(define y " + text + ") y", line + "error unbound\n"},
			{"((lambda () " + text + ")) 5", line + "5\n"}, {"(list ((lambda () (list 1 " + text + ")))) (list 5)", line + "(5)\n"}, {"(define (f n) (if (= n 0) " + text + " (list (f (- n 1))))) (f 5) (+ 1 2)", line + "3\n"}, {"(define (f z) " + text + ") (define y 1) (f 2) y", line + "1\n"},
		} {
			codeTells(t, row[0], row[1])
		}
	}
}

// call/cc, where a call keeps values ahead of it, last, by apply, more than once, and behind its form.
var codeJumps = [][2]string{
	{"(define k 0) (+ 1 (call/cc (lambda (c) (set! k c) 1))) (define n 0) (if (< n 3) (begin (set! n (+ n 1)) (k n)) n)", "2\n2\n"},
	{"(define k 0) (define (f) (call/cc (lambda (c) (begin (set! k c) 1)))) (list 1 (f) 3) (k 2) (+ 10 (k 5))", "(1 1 3)\n(1 2 3)\n(1 5 3)\n"},
	{"(define k 0) (define (f) (begin 0 (call/cc (lambda (c) (begin (set! k c) 1))))) (define (g) (list 'g (f))) (list (g) (g)) (k 7) (k 8)", "((g 1) (g 1))\n((g 1) (g 7))\n((g 1) (g 8))\n"},
	{"(define (f) (apply call/cc (list (lambda (k) (list 1 (k 2)))))) (list (f) (f))", "(2 2)\n"},
	{"(define (f) (call/cc (lambda (k) (apply k '(3))))) (list 1 (f))", "(1 3)\n"},
	{"(define (f k) (k 4)) (list 1 (call/cc f) 2)", "(1 4 2)\n"}, {"(define (f) (call/cc procedure?)) (list (f))", "(#t)\n"}, {"(define (f) (call/cc (lambda k (length k)))) (list (f))", "(1)\n"},
	{"(define k 0) (define n 0) (define (f x) (set! n (+ n 1)) (list x n)) (f (call/cc (lambda (c) (begin (set! k c) 'a)))) (if (< n 4) (k n) 'end) n", "(a 1)\n(1 2)\n2\n"},
	{"(define k 0) (let ((x 1)) (begin (call/cc (lambda (c) (set! k c))) (set! x (+ x 1)) x)) (k 0) (k 0) x", "2\n3\n4\nerror unbound\n"},
	{"(define (f n) (if (= n 0) (call/cc (lambda (k) (begin (set! kept k) 0))) (+ 1 (f (- n 1))))) (define kept 0) (f 5) (kept 10) (list (kept 20))", "5\n15\n25\n"},
	{"(define kept 0) (define (f) (car 1)) (list 1 (call/cc (lambda (k) (begin (set! kept k) 2)))) (list 5 6 (f)) (kept 3) (f)", "(1 2)\nerror type\n(1 3)\nerror type\n"},
	{"(define kept 0) (define x 0) (define x (+ 1 (call/cc (lambda (k) (begin (set! kept k) 1))))) x (begin (kept 9) 7) x", "2\n10\n"},
	{"(define kept 0) (if (call/cc (lambda (k) (begin (set! kept k) #t))) 'yes 'no) (kept #f) (kept 0) kept", "yes\nno\nyes\n#<procedure>\n"},
	{"(call/cc (lambda (k) ((lambda (x) (k x)) 5)))", "5\n"}, {"(call/cc (lambda (k) (list (car 1) (k 5))))", "error type\n"}, {"(define (loop n k) (if (= n 0) (k 'out) (loop (- n 1) k))) (list (call/cc (lambda (k) (loop 100 k))))", "(out)\n"},
	{"(define kept 0) ((call/cc (lambda (k) (begin (set! kept k) list))) 1 2) (kept +) (kept 5)", "(1 2)\n3\nerror procedure\n"},
	{"(define kept 0) (define (gen) (call/cc (lambda (k) (begin (set! kept k) kept)))) (define a (gen)) (eq? a kept) (eq? (gen) a) (procedure? kept)", "#t\n#f\n#t\n"},
}

func TestCodeOfCallCC(t *testing.T) {
	for _, row := range codeJumps {
		codeTells(t, row[0], row[1])
	}
	for many := range 20 {
		ahead := strings.Repeat(" 1", many)
		codeTells(t, "(define k 0) (define m 0) (define l (list"+ahead+" (call/cc (lambda (c) (begin (set! k c) 'a))) (call/cc (lambda (c) (begin (if (eq? m 0) (set! m c)) 'b))))) l (k 'x) l (m 'y) l",
			strings.ReplaceAll("(~a b)\n(~x b)\n(~a y)\n", "~", strings.TrimPrefix(ahead+" ", " ")))
	}
}

// apply, also last, of lambdas, primitives, itself and call/cc, with as few and as many values as can be.
func TestCodeOfApply(t *testing.T) {
	for _, row := range [][2]string{
		{"(apply + '(1 2))", "3"}, {"(apply (lambda (x y) (- x y)) '(5 3))", "2"}, {"(apply (lambda x x) '())", "()"}, {"(apply (lambda (x) x) '())", "error arity"}, {"(apply (lambda (x) x) '(1 2))", "error arity"}, {"(apply (lambda (x . y) y) '(1 2 3))", "(2 3)"}, {"(apply apply (list + '(1 2)))", "3"}, {"(apply apply (list (lambda (x) (list x)) '(1)))", "(1)"}, {"(apply call/cc (list (lambda (k) (+ 1 (k 5)))))", "5"}, {"(call/cc (lambda (k) (apply k '(6))))", "6"}, {"(call/cc (lambda (k) (apply apply (list k '(7)))))", "7"}, {"(apply car '((1) (2)))", "error arity"}, {"(apply 'car '((1)))", "error type"}, {"(apply car 1)", "error type"}, {"(apply car)", "error arity"}, {"(apply car '(1))", "error type"},
	} {
		for _, text := range []string{row[0], "((lambda () " + row[0] + "))", "((lambda (z) (if z (begin 1 " + row[0] + ") 2)) #t)", "(car (list " + row[0] + "))"} {
			codeTells(t, text, row[1]+"\n")
		}
	}
	for _, row := range [][2]string{{"(length (apply list l))", "3000"}, {"(apply + l)", "3000"}, {"(apply (lambda x (length x)) l)", "3000"}, {"(apply (lambda (a b . x) (length x)) l)", "2998"}, {"(apply (lambda (x) x) l)", "error arity"}, {"((lambda () (apply + l)))", "3000"}} {
		codeTells(t, grown(3000)+row[0], row[1]+"\n")
	}
	codeTells(t, "(length (list"+strings.Repeat(" 1", 290)+"))", "290\n")
	codeTells(t, "((lambda () ((lambda x (length x))"+strings.Repeat(" 1", 280)+")))", "280\n")
}

// Texts with how many instructions are done, by hand. The one that ends is done, too, and one with a fault.
var countedCode = []struct {
	text string
	many int
}{
	{"", 1}, {"(define-syntax m (syntax-rules () ((_) 1)))", 1}, {"1", 3}, {"'(1 2)", 3}, {"car", 3}, {"(lambda (x) (x x))", 3}, {"1 2 3", 7}, {"nowhere", 2}, {"nowhere nowhere", 3}, {"nowhere 1", 4},
	{"(if #t 1 2)", 6}, {"(if #f 1 2)", 5}, {"(if nowhere 1 2)", 2}, {"(if #f 1 nowhere)", 4}, {"(define x 1)", 4}, {"(define x nowhere)", 2}, {"(set! x 1)", 3}, {"(define x 1) (set! x 2)", 7}, {"(begin 1)", 3}, {"(begin 1 2)", 5}, {"(begin 1 2 3)", 7},
	{"(list)", 4}, {"(+ 1 2)", 6}, {"(+ 1 (+ 2 3))", 9}, {"(1)", 3}, {"(car 1)", 4}, {"(car)", 3}, {"(car nowhere)", 3}, {"(display 1)", 5},
	{"((lambda () 1))", 6}, {"((lambda (x) x) 5)", 7}, {"((lambda x x) 5 6)", 8}, {"((lambda (x) x))", 3}, {"((lambda () ((lambda () 1))))", 8}, {"((lambda () (list)))", 6}, {"((lambda () (car '(1))))", 7}, {"((lambda () (car 1)))", 6}, {"((lambda () (define x 1)))", 7}, {"((lambda () (if #t 1 2)))", 8}, {"((lambda () (if #f 1 2)))", 8}, {"(list ((lambda () 1)))", 8},
	{"(apply + '(1 2))", 6}, {"((lambda () (apply + '(1 2))))", 8}, {"(apply (lambda (x) x) '(1))", 8}, {"((lambda () (apply (lambda (x) x) '(1))))", 10}, {"(apply apply (list + '(1 2)))", 9},
	{"(call/cc (lambda (k) 1))", 7}, {"(call/cc (lambda (k) (k 1)))", 8}, {"(+ 1 (call/cc (lambda (k) (k 1))))", 11}, {"(+ 1 (call/cc (lambda (k) (list 2 (k 1)))))", 13}, {"(call/cc procedure?)", 5}, {"((lambda () (call/cc procedure?)))", 7}, {"(define k 0) (list (call/cc (lambda (c) (set! k c)))) (k 2)", 3 + 9 + 3 + 2 + 1},
}

func TestInstructionsDone(t *testing.T) {
	for _, row := range countedCode {
		codeTakes(t, row.text, row.many)
		codeTakes(t, row.text+" "+row.text, 2*row.many-1)
	}
	for _, rounds := range []int{0, 1, 2, 10, 500, 1816} {
		codeTakes(t, fmt.Sprintf("(define (f n) (if (= n 0) 0 (f (- n 1)))) (f %d)", rounds), 3+3+7+11*rounds+2)
	}
	last := "(define (f n) (if (= n 0) 0 (f (- n 1)))) (f 1816)"
	codeTakes(t, last+" 1 1 1 (car)", impl.MaxFuel-1)
	codeTakes(t, last+" 1 1 1 1 nowhere", impl.MaxFuel)
	codeRunsOut(t, last+" 1 1 1 1 1", impl.MaxFuel)
	codeRunsOut(t, "(define (f n) (if (= n 0) 0 (f (- n 1)))) (f 1817)", impl.MaxFuel)
	for _, fuel := range []int{0, 1, 2, 100, impl.MaxFuel - 1, impl.MaxFuel} {
		codeRunsOut(t, "(define (f) (f)) (f)", fuel)
		codeRunsOut(t, "(display 1) (define (f) (f)) (car 1) (f) 2", fuel)
	}
	codeRunsOut(t, "", 0)
	codeRunsOut(t, "1", 0)
}

// At every fuel up to what a text takes nothing is told, and behind it the same.
func TestCodeFuelOfAllSizes(t *testing.T) {
	text := "(define (f n) (if (< n 2) 1 (* n (f (- n 1))))) (display (f 5)) (f 3)"
	want := codeAsModel(t, text, impl.MaxFuel)
	if want.told != "1206\n" || want.code != impl.RunOk {
		t.Fatalf("%+v", want)
	}
	for fuel := range want.done + 50 {
		if fuel < want.done {
			codeRunsOut(t, text, fuel)
		} else if got := codeRun(text, fuel); got.told != want.told || got.code != impl.RunOk {
			t.Errorf("with fuel %d: %+v", fuel, got)
		}
	}
}

// Random texts come to what the model comes to, and tell what steps tell.
func TestCodeRunsAreThoseOfTheModel(t *testing.T) {
	t.Parallel()
	s := &scribe{dice: &dice{state: 613}, names: []string{"g0", "turns"}, kinds: "nn"}
	both := 0
	for range 3000 {
		text := s.program()
		want := codeAsModel(t, text, impl.MaxFuel)
		if code, stepsCode := codeAsSteps(t, text, impl.MaxFuel); code == impl.RunOk && stepsCode == impl.RunOk {
			both++
		}
		if want.code == impl.RunOk {
			codeTakes(t, text, want.done)
			codeRunsOut(t, text, s.below(want.done))
			codeAsSteps(t, text, want.done)
		} else {
			codeAsModel(t, text, s.below(impl.MaxFuel))
		}
		if t.Failed() {
			return
		}
	}
	if both < 2500 {
		t.Error("only", both, "texts run by both")
	}
}

// Code and steps run out at limits of their own.
func TestOneRunsOutAlone(t *testing.T) {
	loop := "(define (f n) (if (= n 0) 'end (f (- n 1)))) (f 1500)"
	codeTells(t, loop, "end\n")
	runsOut(t, loop, impl.MaxFuel)
	tells(t, "1", "1\n")
	takes(t, "1", 1)
	codeRunsOut(t, "1", 1)
	// What is a thing to be done and no return, and the other way round.
	waits := grown(1200) + "(define (f l) (if (if (f (cdr l)) 1 2) 1 2)) (f l)"
	codeTells(t, waits, "error type\n")
	runsOut(t, waits, impl.MaxFuel)
	puts := grown(300) + "(define (f l) (list 1 2 3 4 5 6 (f (cdr l)))) (f l)"
	tells(t, puts, "error type\n")
	codeRunsOut(t, puts, impl.MaxFuel)
}
