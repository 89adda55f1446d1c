package tests

import (
	"fmt"
	"strings"
	"testing"

	"loop.example/g00201/impl"
)

// countedForms are texts with how many steps they take, by hand: a form that is begun, a value that is given.
var countedForms = []struct {
	text  string
	steps int
}{
	{"", 0}, {"(define-syntax m (syntax-rules () ((_) 1)))", 0}, {"1", 1}, {"\"a\"", 1}, {"#t", 1}, {"car", 1}, {"'a", 1}, {"'(1 2 (3))", 1}, {"(lambda (x) (x x))", 1}, {"nowhere", 1}, {"1 2 3", 3},
	{"(if #t 1 2)", 4}, {"(if #f 1 2)", 4}, {"(if nowhere 1 2)", 2}, {"(if #t nowhere 2)", 4}, {"(define x 1)", 3}, {"(define x nowhere)", 2}, {"(define x 1) (set! x 2)", 6}, {"(set! x 2)", 3}, {"(set! x nowhere)", 2},
	{"(begin 1)", 2}, {"(begin 1 2)", 4}, {"(begin 1 2 3)", 6}, {"(begin (begin 1))", 3}, {"(begin nowhere 2)", 2}, {"(begin 1 nowhere)", 4},
	{"(list)", 3}, {"(list 1)", 5}, {"(+ 1 2)", 7}, {"(1)", 3}, {"(1 2)", 5}, {"(car 1)", 5}, {"(car)", 3}, {"(nowhere 1)", 2}, {"(car nowhere)", 4}, {"(newline)", 3}, {"(display 1)", 5},
	{"((lambda () 1))", 4}, {"((lambda (x) x) 5)", 6}, {"((lambda x x) 5 6)", 8}, {"((lambda (x) x))", 3}, {"((lambda (x) (begin x x)) 5)", 9}, {"((lambda () ((lambda () 1))))", 7},
	{"(+ 1 (+ 2 3))", 13}, {"((if #t + -) 1 2)", 10}, {"(if (if #t #f 1) 2 3)", 7}, {"(if 1 (if 2 3 4) 5)", 7}, {"(begin (begin 1 2) 3)", 7}, {"(begin 1 (begin 2 3))", 7}, {"(define x (if #t 1 2))", 6}, {"(define x (define y 1))", 5}, {"(begin (define x 1) x)", 6}, {"(list (begin 1 2))", 8}, {"(list (lambda () 1))", 5}, {"(if (define x 1) 2 3)", 6},
	{"(apply + '(1 2))", 7}, {"(apply (lambda (a) a) '(1))", 8}, {"(apply apply (list + '(1 2)))", 13}, {"(list (apply + '(1 2)))", 11},
	{"(call/cc (lambda (k) 1))", 6}, {"(call/cc (lambda (k) (k 1)))", 10}, {"(+ 1 (call/cc (lambda (k) (k 1))))", 16}, {"(+ 1 (call/cc (lambda (k) 1)))", 12}, {"(call/cc procedure?)", 5}, {"(list (call/cc procedure?))", 9}, {"(call/cc (lambda (k) (+ 1 (k 7))))", 15}, {"(list (call/cc (lambda (k) (list 1 (k 7)))))", 19}, {"(call/cc call/cc)", 5},
	{"(define k 0) (list 1 (call/cc (lambda (c) (set! k c)))) (k 2) (list 3 (k 4))", 3 + 14 + 6 + 11},
	{"(let ((x 1)) x)", 6}, {"(let () 1)", 4}, {"(and 1 2)", 4}, {"(or 1 2)", 9}, {"(cond (#f 1) (else 2))", 5}, {"(when 1 2 3)", 7}, {"(car 1) (car 1)", 10},
}

func TestStepsOfForms(t *testing.T) {
	for _, row := range countedForms {
		takes(t, row.text, row.steps)
		runAsModel(t, row.text, impl.MaxFuel)
		takes(t, row.text+" "+row.text, 2*row.steps)
	}
}

// A loop by calls that are last takes 20 steps a round, and ends with the last fuel.
func TestStepsOfLoops(t *testing.T) {
	for _, rounds := range []int{0, 1, 2, 10, 500, 999} {
		takes(t, fmt.Sprintf("(define (f n) (if (= n 0) 0 (f (- n 1)))) (f %d)", rounds), 18+20*rounds)
	}
	runsOut(t, "(define (f n) (if (= n 0) 0 (f (- n 1)))) (f 1000)", impl.MaxFuel)
	last := "(define (f n) (if (= n 0) 0 (f (- n 1)))) (f 999)"
	takes(t, last+" 1 1", impl.MaxFuel)
	runsOut(t, last+" 1 1 1", impl.MaxFuel)
	for _, fuel := range []int{0, 1, 2, 100, impl.MaxFuel - 1, impl.MaxFuel} {
		runsOut(t, "(define (f) (f)) (f)", fuel)
		runsOut(t, "(display 1) (define (f) (f)) (car 1) (f) 2", fuel)
		takes(t, "", 0)
	}
}

// Sums told by recursion, at every fuel up to what they take.
func TestFuelOfAllSizes(t *testing.T) {
	text := "(define (f n) (if (< n 2) 1 (* n (f (- n 1))))) (display (f 5)) (f 3)"
	want := runText(text, impl.MaxFuel)
	if want.told != "1206\n" || want.code != impl.RunOk {
		t.Fatalf("%+v", want)
	}
	for fuel := range want.steps + 50 {
		if fuel < want.steps {
			runsOut(t, text, fuel)
		} else if got := runText(text, fuel); got != want {
			t.Errorf("with fuel %d: %+v", fuel, got)
		}
	}
}

// grown defines g, and l as a list of so many ones: as many pairs are made as 64 times a 32nd of it, and the rest.
func grown(length int) string {
	return fmt.Sprintf("(define (g l n) (if (= n 0) l (g (append l l) (- n 1)))) (define l (append (g '(%s) 5) '(%s))) ",
		strings.Repeat("1 ", length/32), strings.Repeat("1 ", length%32))
}

// Calls that are last wait for nothing: there are more of them than things may be to be done.
func TestLastCallsWaitForNothing(t *testing.T) {
	text := grown(2130) + "(define (f l) (f (cdr l))) (f l)"
	tells(t, text, "error type\n")
	runAsModel(t, text, impl.MaxFuel)
}

// deep are forms that wait for what stands at the ~, each with how many things these are.
var deep = []struct {
	form   string
	things int
}{
	{"(if (if ~ 1 2) 1 2)", 2}, {"(begin (begin ~ 1) 2)", 2}, {"(define x (define y ~))", 2}, {"(set! x (set! y ~))", 2}, {"(list (list ~))", 2}, {"(list 1 (if ~ 1 2))", 2}, {"((begin ~ 1))", 2}, {"(if (begin 1 ~ 2) 1 2)", 2}, {"(if (begin (if ~ 1 2)) 1 2)", 2}, {"(if (if #t (if ~ 1 2) 3) 1 2)", 2},
	{"(if (define x (if ~ 1 2)) 1 2)", 3}, {"(list (list (list ~)))", 3}, {"(begin (set! x ((lambda () (begin 1 ~)))) 1)", 2}, {"(if (begin 1 (begin ~ 1)) 1 2)", 2}, {"(if ((lambda (y) (list ~)) 1) 1 2)", 2}, {"(begin (define y (apply list (list ~))) 1)", 4}, {"(if (call/cc (lambda (k) (list ~))) 1 2)", 2},
}

// padded is a form in which so many begins wait.
func padded(form string, many int) string {
	return strings.Repeat("(begin ", many) + form + strings.Repeat(" 1)", many)
}

// The things to be done are counted: MaxStack of them may be, one more may not. A list that is looked through to its
// end is how deep it goes; there two calls are waiting more, for the rest of what is no pair.
func TestThingsToBeDone(t *testing.T) {
	for _, row := range deep {
		levels := (impl.MaxStack - 2) / row.things
		left := impl.MaxStack - 2 - levels*row.things
		ahead := grown(levels-1) + "(define x 0) (define y 0) (define (f l) " + strings.Replace(row.form, "~", "(f (cdr l))", 1) + ") "
		tells(t, ahead+padded("(f l)", left), "error type\n")
		runsOut(t, ahead+padded("(f l)", left+1), impl.MaxFuel)
		runAsModel(t, ahead+padded("(f l)", left), impl.MaxFuel)
		runAsModel(t, ahead+padded("(f l)", left+1), impl.MaxFuel)
	}
}

// What waits, and what does not, around a form that leaves no room for one thing more.
func TestWhatWaits(t *testing.T) {
	ahead := grown(998) + "(define x 0) (define (f l) (if (if (f (cdr l)) 1 2) 1 2)) "
	for _, form := range []string{
		"(f l)", "(begin (f l))", "(begin 1 (f l))", "(begin 1 2 (begin (f l)))", "(if #t (f l) 1)", "(if #f 1 (f l))", "((lambda () (f l)))", "((lambda (x) (begin x (f l))) 1)", "(apply f (list l))", "(apply apply (list f (list l)))", "(call/cc (lambda (k) (f l)))", "(f (begin l))", "((begin f) l)", "(let ((m l)) (f m))", "(cond (#f 1) (else (f l)))", "(and 1 (f l))", "(or #f (f l))", "(begin (begin 1 2) (f l))", "(begin (list 1 (list 2)) (f l))",
	} {
		tells(t, ahead+form, "error type\n")
	}
	for _, form := range []string{
		"(begin (f l) 1)", "(begin 1 (f l) 2)", "(if (f l) 1 2)", "(define y (f l))", "(set! x (f l))", "(list (f l))", "(list 1 (f l) 2)", "((f l))", "((f l) 1)", "(car (f l))", "(let ((m (f l))) m)", "(or (f l) 1)", "(and (f l) 1)", "(begin (begin (f l)) 1)", "((lambda (x) x) (f l))", "(apply f (list (f l)))", "(call/cc (f l))",
	} {
		runsOut(t, ahead+form, impl.MaxFuel)
	}
	// What was to be done is forgotten with a fault, and by call/cc, so there is room for as much again.
	tells(t, grown(800)+"(define (f l) (if (if (f (cdr l)) 1 2) 1 2)) (f l) (f l)", "error type\nerror type\n")
	tells(t, grown(450)+"(define (f k l) (if (if (if (null? l) (k 7) (f k (cdr l))) 1 2) 1 2)) (define (c) (call/cc (lambda (k) (f k l)))) (list (c) (c))", "(7 7)\n")
}

// pairsMade is a text that makes just so many pairs, at least 19000: s is a list of one, and m one of two.
func pairsMade(many int) string {
	left := many - 3 - 16384
	return "(define (g l n) (if (= n 0) l (g (append l l) (- n 1)))) (define s (list 1)) (define m (cons 1 s)) (define l (g (list 1) 13)) (define r (reverse l)) (define e (list)) " +
		fmt.Sprintf("(define q (g '(%s) 5)) (define p (list%s)) ", strings.Repeat("1 ", left/32), strings.Repeat(" 1", 1+left%32))
}

// Pairs that are made are counted: MaxPairs may be, one more may not.
func TestPairsMade(t *testing.T) {
	full, less := pairsMade(impl.MaxPairs), pairsMade(impl.MaxPairs-1)
	whether := func(form string) string { return "(pair? " + form + ")" }
	for _, form := range []string{"1", "(length l)", "(append '() l)", "(append e 1)", "(reverse e)", "(list)", "'()", "'a", "((lambda x x))", "((lambda (a . x) x) 1)", "(apply (lambda (a) a) s)", "(apply + l)", "(car l)", "(cdr m)", "(equal? l r)", "(apply apply '())"} {
		if got, code := impl.RunForms(full+whether(form), impl.MaxFuel); code != impl.RunOk {
			t.Errorf("%s: %q, %d", form, short(got), code)
		}
	}
	for _, form := range []string{"(cons 1 2)", "(list 1)", "'(1)", "'(1 . 2)", "'(())", "((lambda x x) 1)", "((lambda (a . x) x) 1 2)", "(append s 1)", "(append s l)", "(reverse s)", "(apply list s)", "(apply (lambda x x) s)", "(apply (lambda (a . x) x) m)", "(apply cons m)", "(call/cc list)", "(call/cc (lambda k k))"} {
		runsOut(t, full+whether(form), impl.MaxFuel)
		if got, code := impl.RunForms(less+whether(form), impl.MaxFuel); code != impl.RunOk {
			t.Errorf("%s with room for it: %q, %d", form, short(got), code)
		}
		runsOut(t, less+whether(form)+whether(form), impl.MaxFuel)
	}
	for _, form := range []string{"(cons 1 (cons 2 3))", "(list 1 2)", "'(1 2)", "'((1))", "'(1 2 . 3)", "((lambda x x) 1 2)", "(reverse m)", "(append m 1)", "''a", "(reverse l)", "(apply list m)", "(append l l)"} {
		runsOut(t, less+whether(form), impl.MaxFuel)
	}
	// What was made in one form, and by faults and calls that were left, counts too.
	runsOut(t, less+"(car (list 1)) (begin (cons 1 2) 3)", impl.MaxFuel)
	runsOut(t, less+"(car (cons 1 (car 1))) (length (list 1)) (car (car (list 1)))", impl.MaxFuel)
	runAsModel(t, full+"(length l)", impl.MaxFuel)
	runAsModel(t, full+"(list 1)", impl.MaxFuel)
}

// trees defines x and y, two alike of which equal? looks at 19997 pairs of values: with n rounds d makes a tree of
// 2^(n+1)-1, and a list of trees has one more for each, and one for its end.
const trees = "(define (d x n) (if (= n 0) x (d (cons x x) (- n 1)))) (define (a) (list (d 1 13) (d 1 10) (d 1 9) (d 1 8) (d 1 3) (d 1 2) (d 1 1))) (define x (a)) (define y (a)) "

// An equal? looks at MaxPairs pairs of values at most, from the front, and at none behind the first unlike one.
func TestEqualLooksAtPairs(t *testing.T) {
	for _, row := range [][2]string{
		{"(equal? x y)", "#t"}, {"(equal? (cons x 1) (cons y 1))", "#t"}, {"(equal? (cons 1 x) (cons 1 y))", "#t"}, {"(equal? (cons x 1) (cons y 2))", "#f"},
		{"(equal? (cons (cons x 1) 0) (cons (cons y 2) 0))", "#f"}, {"(equal? (list 0 x) (list 1 y))", "#f"}, {"(equal? (list 0 x x) (list 1 y y))", "#f"}, {"(equal? (list x x) (list x x))", "#t"}, {"(equal? (list x x x x y) (list x x x x 1))", "#f"}, {"(list (equal? x y) (equal? x y))", "(#t #t)"}, {"(eq? x y)", "#f"}, {"(equal? x (cdr y))", "#f"},
	} {
		gives(t, trees+row[0], row[1])
		runAsModel(t, trees+row[0], impl.MaxFuel)
	}
	for _, form := range []string{
		"(equal? (cons (cons x 1) 0) (cons (cons y 1) 0))", "(equal? (list 1 x) (list 1 y))", "(equal? (cons 1 (cons x 1)) (cons 1 (cons y 1)))", "(equal? (list x x) (list y y))", "(equal? (cons x (cons 1 2)) (cons y (cons 1 3)))", "(equal? (d 1 60) (d 1 60))", "(equal? (d x 60) (d y 60))", "(begin (display 1) (equal? (list 1 x) (list 1 y)) 2)",
	} {
		runsOut(t, trees+form, impl.MaxFuel)
		runAsModel(t, trees+form, impl.MaxFuel)
	}
}

// displayed is a text that tells just so many bytes, at least 100, and whose value is none.
func displayed(many int) string {
	return fmt.Sprintf("(define s \"%s\") (define (f n) (if (= n 0) (define z 0) (begin (display s) (f (- n 1))))) (f %d) (display \"%s\") ", strings.Repeat("s", 100), many/100, strings.Repeat("r", many%100))
}

// What is told is at most MaxOut bytes, in whatever way the last ones come.
func TestBytesTold(t *testing.T) {
	for _, row := range [][2]string{
		{"", ""}, {"(display \"\")", ""}, {"(define y 1)", ""}, {"(display \"a\")", "a"}, {"(display \"ab\")", "ab"}, {"(display '(\"a\"))", "(a)"}, {"(newline)", "\n"}, {"(write \"\\n\")", `"\n"`}, {"(write 'a)", "a"}, {"1", "1\n"}, {"\"a\"", "\"a\"\n"}, {"'()", "()\n"}, {"'(1 . 2)", "(1 . 2)\n"}, {"car", "#<procedure>\n"}, {"(car 1)", "error type\n"}, {"nowhere", "error unbound\n"}, {"(write (newline))", "\n#<none>"}, {"(display s)", strings.Repeat("s", 100)}, {"(list s 1)", "(\"" + strings.Repeat("s", 100) + "\" 1)\n"}, {"(begin (display 1) (display 2) 3)", "123\n"}, {"1 2 (newline) 3", "1\n2\n\n3\n"},
	} {
		text := displayed(impl.MaxOut-len(row[1])) + row[0]
		got := runText(text, impl.MaxFuel)
		if got.code != impl.RunOk || len(got.told) != impl.MaxOut || !strings.HasSuffix(got.told, row[1]) {
			t.Errorf("%s at the end of what may be told: %d, %d bytes", row[0], got.code, len(got.told))
		}
		runAsModel(t, text, impl.MaxFuel)
		runsOut(t, text+" (display 1)", impl.MaxFuel)
		runsOut(t, text+" 1", impl.MaxFuel)
		if row[1] != "" {
			runsOut(t, displayed(impl.MaxOut+1-len(row[1]))+row[0], impl.MaxFuel)
		}
	}
	long := grown(999) + "l"
	if got := runText(long, impl.MaxFuel); len(got.told) != 2000 || got.last+"\n" != got.told {
		t.Errorf("a list of 999: %d, %d bytes, %d", got.code, len(got.told), len(got.last))
	}
	runsOut(t, grown(1000)+"l", impl.MaxFuel)
	runsOut(t, grown(1000)+"(begin (display l) 1)", impl.MaxFuel)
	runsOut(t, grown(1000)+"(list (write l))", impl.MaxFuel)
	gives(t, grown(1000)+"(define m l)", "#<none>")
	for _, form := range []string{"(d 1 60)", "(display (d 1 60))", "(write (list 1 (d 1 60)))", "(d (list) 60)", "(cons 1 (d 1 60))", "(list (d \"\" 60) car)"} {
		runsOut(t, trees+form, impl.MaxFuel)
	}
}
