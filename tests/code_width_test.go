package tests

import (
	"fmt"
	"strings"
	"testing"

	"loop.example/g00201/impl"
)

// Texts with how many values and returns there are at most ahead of an instruction, by hand.
var countedWidths = []struct {
	text    string
	values  int
	returns int
}{
	{"", 0, 0}, {"1", 1, 0}, {"'(1 2 3)", 1, 0}, {"x", 0, 0}, {"car", 1, 0}, {"(lambda () (f 1 2 3))", 1, 0}, {"1 2 3", 1, 0}, {"(define x 1)", 1, 0}, {"(set! x 1)", 1, 0}, {"(begin 1 2 3)", 1, 0}, {"(if 1 2 3)", 1, 0}, {"(define-syntax m (syntax-rules () ((_) 1)))", 0, 0},
	// Calls, and calls within calls.
	{"(list)", 1, 0}, {"(+ 1 2)", 3, 0}, {"(+ 1 (+ 2 3))", 5, 0}, {"(+ (+ 2 3) 1)", 4, 0}, {"(+ (+ (+ 1 2) 3) 4)", 5, 0}, {"(+ 1 (+ 2 (+ 3 (+ 4 5))))", 9, 0}, {"((begin list) (begin 1 2))", 2, 0}, {"(list 1 (if 2 3 4))", 3, 0}, {"(list 1 (define x 2))", 3, 0},
	// A lambda that is called, not last and last.
	{"((lambda () 1))", 1, 1}, {"((lambda (x) x) 5)", 2, 1}, {"((lambda x x) 1 2 3)", 4, 1}, {"((lambda () ((lambda () 1))))", 1, 1}, {"((lambda () (begin ((lambda () 1)) 2)))", 1, 2}, {"(list ((lambda () 1)))", 2, 1}, {"(list 1 2 ((lambda (x) (+ x x)) 3))", 6, 1}, {"((lambda () (list ((lambda () 1)))))", 2, 2}, {"((lambda () (list ((lambda () (list ((lambda () 1))))))))", 3, 3}, {"((lambda () (if ((lambda () 1)) ((lambda () 2)) 3)))", 1, 2}, {"(define (f) 1) (f)", 1, 1}, {"(define (f) 1) (define (g) (f)) (g)", 1, 1}, {"(define (f) 1) (define (g) (car (list (f)))) (g)", 3, 2},
	// A primitive that is called last.
	{"((lambda (x) (car x)) '(1))", 2, 1}, {"((lambda () (+ 1 2 3)))", 4, 1}, {"(list ((lambda () (+ 1 2 3))))", 5, 1}, {"((lambda () (list)))", 1, 1}, {"(apply + '(1 2))", 3, 0}, {"(apply (lambda (x) x) '(1))", 3, 1}, {"((lambda () (apply (lambda (x) x) '(1))))", 3, 1}, {"((lambda () (apply + '(1 2 3 4 5 6))))", 3, 1}, {"(apply list '(1 2 3 4 5 6))", 3, 0},
	{"(call/cc (lambda (k) 1))", 2, 1}, {"(call/cc (lambda (k) (k 1)))", 2, 1}, {"(+ 1 (call/cc (lambda (k) (k 1))))", 4, 1}, {"(list (call/cc (lambda (k) (list 1 2 3 (k 1)))))", 7, 1}, {"((lambda () (call/cc (lambda (k) (k 1)))))", 2, 1}, {"(call/cc (lambda (k) ((lambda () (begin ((lambda () (k 1))) 2)))))", 2, 2},
	// Forms one behind the other: the most of all, values and returns each by itself.
	{"(+ 1 2) 1", 3, 0}, {"1 (+ 1 2)", 3, 0}, {"(+ 1 2) (+ 1 2)", 3, 0}, {"(+ 1 2 3 4) ((lambda () 1))", 5, 1}, {"((lambda () (begin ((lambda () 1)) 2))) (list 1 2 3)", 4, 2},
	// A fault leaves nothing for the next form; what there was ahead of it counts.
	{"(+ 1 2 nowhere)", 3, 0}, {"(nowhere 1 2)", 0, 0}, {"(+ 1 2 3 (car 1)) 1", 6, 0}, {"(1 2 3)", 3, 0}, {"(list 1 ((lambda () (car 1)))) 2", 4, 1}, {"((lambda (x) x))", 1, 0}, {"((lambda (x) x) 1 2)", 3, 0}, {"(list 1 2 (car 1)) (list 1 2 (car 1)) (list 1 2 (car 1))", 5, 0}, {"((lambda () (list (nowhere)))) ((lambda () (list (nowhere))))", 1, 1},
	// What call/cc goes back to.
	{"(define k 0) (list 1 2 (call/cc (lambda (c) (set! k c)))) (k 1)", 5, 1}, {"(define k 0) (define (f) (list (call/cc (lambda (c) (begin (set! k c) 1))))) (f) (k 2)", 3, 2}, {"(define k 0) (list (call/cc (lambda (c) (begin (set! k c) 1))) 2 3 4 5 6) (k 2)", 7, 1},
}

func TestWidthsByHand(t *testing.T) {
	for _, row := range countedWidths {
		hasWidths(t, row.text, row.values, row.returns)
	}
}

// loops are texts that go round ~ times by calls that are last, with the widths of one round or more.
var loops = []struct {
	text    string
	values  int
	returns int
}{
	{"(define (f n) (if (= n 0) 0 (f (- n 1)))) (f ~)", 4, 1},
	{"(let loop ((n ~)) (if (= n 0) 'end (loop (- n 1))))", 4, 1},
	{"(define (f n) (begin 1 (if (< n 1) 0 (begin 2 (f (- n 1)))))) (f ~)", 4, 1},
	{"(define (f n) (cond ((= n 0) 0) (else (f (- n 1))))) (f ~)", 4, 1},
	{"(define (f n) (or (= n 0) (f (- n 1)))) (f ~)", 4, 1},
	{"(define (f n) (and (> n 0) (f (- n 1)))) (f ~)", 4, 1},
	{"(define (f n) (let ((m (- n 1))) (if (< m 0) 0 (f m)))) (f ~)", 4, 1},
	{"(define (e n) (if (= n 0) #t (o (- n 1)))) (define (o n) (if (= n 0) #f (e (- n 1)))) (e ~)", 4, 1},
	{"(define (f n) (if (= n 0) 0 (apply f (list (- n 1))))) (f ~)", 6, 1},
	{"(define (f n) (if (= n 0) 0 (apply apply (list f (list (- n 1)))))) (f ~)", 8, 1},
	{"(define (f n) (if (= n 0) 0 (call/cc (lambda (k) (f (- n 1)))))) (f ~)", 4, 1},
	{"(define (f n) (if (= n 0) 0 (call/cc (lambda (k) (k (f (- n 1))))))) (f 0) (define (g n) (if (= n 0) 0 (g (- n 1)))) (g ~)", 4, 1},
	{"(define (f n k) (if (= n 0) (k 0) (f (- n 1) k))) (call/cc (lambda (k) (f ~ k)))", 4, 1},
	{"(define (f n) (if (= n 0) 0 ((lambda (m) (f m)) (- n 1)))) (f ~)", 4, 1},
	{"(define (f n) (if (= n 0) 0 ((if #t f car) (- n 1)))) (f ~)", 4, 1},
	{"(define n ~) (define k 0) (begin (call/cc (lambda (c) (set! k c))) (if (= n 0) 'end (begin (set! n (- n 1)) (k 1))))", 3, 1},
	{"(list 1 2 (let loop ((n ~)) (if (= n 0) 3 (loop (- n 1)))))", 7, 1},
}

// Loops by calls that are last grow nothing, however often they go round.
func TestLastCallsGrowNothing(t *testing.T) {
	for _, row := range loops {
		for _, rounds := range []int{1, 2, 3, 10, 100, 900} {
			hasWidths(t, strings.ReplaceAll(row.text, "~", fmt.Sprint(rounds)), row.values, row.returns)
		}
	}
	// More rounds than there may be returns, over a list.
	text := grown(2500) + "(define (f l) (f (cdr l))) (f l)"
	codeTells(t, text, "error type\n")
	hasWidths(t, text, grownValues, 1)
	// A call that is not last grows with each round.
	for _, rounds := range []int{1, 2, 3, 10, 100} {
		hasWidths(t, fmt.Sprintf("(define (f n) (if (= n 0) 0 (+ 1 (f (- n 1))))) (f %d)", rounds), 2*rounds+4, rounds+1)
	}
}

// grownValues is how many values there are at most where grown makes its list: append, and within it g, what was
// appended, -, n and 1.
const grownValues = 6

// growing are lambdas that call themselves with the rest of a list, not last, with how many values are kept in each,
// how many more there are at most within one, and how many returns within the last one.
var growing = []struct {
	form  string
	keeps int
	more  int
	last  int
}{
	{"(begin (f (cdr l)) 1)", 0, 3, 1}, {"(if (f (cdr l)) 1 2)", 0, 3, 1}, {"(define x (f (cdr l)))", 0, 3, 1}, {"(set! x (f (cdr l)))", 0, 3, 1}, {"(list (f (cdr l)))", 1, 4, 1}, {"((f (cdr l)) 1)", 0, 3, 1}, {"(list 1 (f (cdr l)))", 2, 5, 1}, {"(begin (apply f (list (cdr l))) 1)", 0, 5, 1}, {"(list 1 2 3 4 5 6 (f (cdr l)))", 7, 10, 1}, {"(list 1 (apply f (list (cdr l))))", 2, 7, 1}, {"(list (call/cc (lambda (k) (f (cdr l)))))", 1, 4, 2}, {"(begin (call/cc (lambda (k) (f (cdr l)))) 1)", 0, 3, 2},
}

// MaxStack values and returns may be, and one more of each may not. The list's end is a fault, one call deeper.
func TestStacksAtTheLimit(t *testing.T) {
	for _, row := range growing {
		length := impl.MaxStack - row.last
		if row.keeps > 0 {
			length = min(length, (impl.MaxStack-row.more)/row.keeps)
		}
		ahead := "(define x 0) (define (f l) " + row.form + ") "
		hasWidths(t, grown(length)+ahead+"(f l)", max(length*row.keeps+row.more, grownValues), length+row.last)
		codeTells(t, grown(length)+ahead+"(f l)", "error type\n")
		codeRunsOut(t, grown(length+1)+ahead+"(f l)", impl.MaxFuel)
		codeAsModel(t, grown(length+1)+ahead+"(f l)", impl.MaxFuel)
	}
}

// Values that wait are counted one by one: with just MaxStack it runs, with one more it runs out.
func TestValuesAtTheLimit(t *testing.T) {
	// Each round keeps 8 values, and the last one has 11 at most.
	ahead := grown(248) + "(define (f l) (list 1 2 3 4 5 6 7 (f (cdr l)))) "
	for waiting := range 12 {
		text := ahead + "(list" + strings.Repeat(" 1", waiting) + " (f l))"
		if most := 1 + waiting + 248*8 + 11; most <= impl.MaxStack {
			hasWidths(t, text, most, 249)
		} else {
			codeRunsOut(t, text, impl.MaxFuel)
		}
		codeAsModel(t, text, impl.MaxFuel)
	}
}

// What was on the stacks is gone with a fault, with a form's end and with what call/cc goes back to.
func TestStacksAreEmptied(t *testing.T) {
	codeTells(t, grown(1200)+"(define (f l) (begin (f (cdr l)) 1)) (f l) (f l)", "error type\nerror type\n")
	ahead := "(define l (append l '(#f))) (define k 0) (define (c) (call/cc (lambda (here) (begin (set! k here) (f l))))) "
	codeTells(t, grown(1001)+ahead+"(define (f l) (begin (if (car l) (f (cdr l)) (k 7)) 1)) (list (c) (c))", "(7 7)\n")
	codeTells(t, grown(600)+ahead+"(define (f l) (list 1 2 (if (car l) (f (cdr l)) (k 7)))) (list (c) (c))", "(7 7)\n")
	// Going back to deep stacks, again and again, does not add to them.
	hasWidths(t, grown(500)+"(define k 0) (define n 0) (define (f l) (if (null? l) (call/cc (lambda (c) (begin (set! k c) 0))) (+ 1 (f (cdr l))))) (f l) (if (< n 3) (begin (set! n (+ n 1)) (k n)) n) (k 0)", 1003, 501)
}

// With RunForm and RunOut there are no widths.
func TestWidthsBesideCodes(t *testing.T) {
	for _, text := range []string{"(", "(if)", "1 (if)", "\xff", strings.Repeat("1 ", 301)} {
		for _, fuel := range []int{0, 5, impl.MaxFuel} {
			isNoCode(t, text, fuel)
		}
	}
	for _, fuel := range []int{-1, impl.MaxFuel + 1} {
		isNoCode(t, "1", fuel)
		isNoCode(t, "", fuel)
	}
	for _, row := range countedWidths {
		codeRunsOut(t, row.text, 0)
	}
	codeRunsOut(t, "(list 1 2 3)", 5)
	codeRunsOut(t, "(define (f) (list 1 (f))) (f)", impl.MaxFuel)
}

// Pairs that are made, by quotes and rests of arguments too, and those that equal? looks at, are counted as by steps.
func TestCodePairsMade(t *testing.T) {
	full, less := pairsMade(impl.MaxPairs), pairsMade(impl.MaxPairs-1)
	for _, form := range []string{"1", "(length l)", "(append '() l)", "(reverse e)", "'()", "((lambda x x))", "((lambda (a . x) x) 1)", "(apply (lambda (a) a) s)", "(apply + l)", "(equal? l r)"} {
		if got := codeRun(full+"(pair? "+form+")", impl.MaxFuel); got.code != impl.RunOk {
			t.Errorf("%s: %+v", form, got)
		}
	}
	for _, form := range []string{"(cons 1 2)", "(list 1)", "'(1)", "'(1 . 2)", "((lambda x x) 1)", "((lambda (a . x) x) 1 2)", "(append s 1)", "(reverse s)", "(apply list s)", "(apply (lambda x x) s)", "(call/cc (lambda k k))", "((lambda () (list 1)))", "((lambda () ((lambda x x) 1)))"} {
		whether := "(pair? " + form + ")"
		codeRunsOut(t, full+whether, impl.MaxFuel)
		codeTells(t, less+whether, "#t\n")
		codeRunsOut(t, less+whether+whether, impl.MaxFuel)
	}
	codeRunsOut(t, less+"(define (f) (car '(1))) (f) (f)", impl.MaxFuel)
	codeTells(t, less+"(define (f) (car '(1))) (f)", "1\n")
	codeTells(t, trees+"(equal? x y)", "#t\n")
	codeTells(t, trees+"(equal? (cons x 1) (cons y 1))", "#t\n")
	codeRunsOut(t, trees+"(equal? (list 1 x) (list 1 y))", impl.MaxFuel)
	codeRunsOut(t, trees+"(begin (display 1) (equal? (d 1 60) (d 1 60)) 2)", impl.MaxFuel)
}

// What is told is at most MaxOut bytes, in whatever way, and in whatever form, the last ones come.
func TestCodeBytesTold(t *testing.T) {
	for _, row := range [][2]string{
		{"", ""}, {"(display \"\")", ""}, {"(define y 1)", ""}, {"(display \"a\")", "a"}, {"(newline)", "\n"}, {"(write 'a)", "a"}, {"1", "1\n"}, {"'(1 . 2)", "(1 . 2)\n"}, {"(lambda () 1)", "#<procedure>\n"}, {"(call/cc (lambda (k) k))", "#<procedure>\n"}, {"(car 1)", "error type\n"}, {"nowhere", "error unbound\n"}, {"((lambda () (display s)))", strings.Repeat("s", 100)}, {"(begin (display 1) (display 2) 3)", "123\n"}, {"1 2 (newline) 3", "1\n2\n\n3\n"},
	} {
		text := displayed(impl.MaxOut-len(row[1])) + row[0]
		got := codeRun(text, impl.MaxFuel)
		if got.code != impl.RunOk || len(got.told) != impl.MaxOut || !strings.HasSuffix(got.told, row[1]) {
			t.Errorf("%s at the end of what may be told: %d, %d bytes", row[0], got.code, len(got.told))
		}
		codeAsModel(t, text, impl.MaxFuel)
		for _, more := range []string{" (display 1)", " 1", " (car 1)", " 1 2 3", " (display 1) 2", " (car 1) 2"} {
			codeRunsOut(t, text+more, impl.MaxFuel)
		}
		if row[1] != "" {
			codeRunsOut(t, displayed(impl.MaxOut+1-len(row[1]))+row[0], impl.MaxFuel)
			codeRunsOut(t, displayed(impl.MaxOut+1-len(row[1]))+row[0]+" (define z 1)", impl.MaxFuel)
		}
	}
	for _, form := range []string{"(d 1 60)", "(display (d 1 60))", "(write (list 1 (d 1 60)))", "(cons 1 (d 1 60)) 5"} {
		codeRunsOut(t, trees+form, impl.MaxFuel)
	}
}
