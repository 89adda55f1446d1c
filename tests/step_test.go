package tests

import (
	"strings"
	"testing"

	"loop.example/g00201/impl"
)

// Each value's form, its text, and its text where it is displayed.
var valueTexts = [][3]string{
	{"5", "5", "5"}, {"-7/3", "-7/3", "-7/3"}, {"#x-1A/4", "-13/2", "-13/2"}, {nines(600), nines(600), nines(600)},
	{"'a", "a", "a"}, {"'if", "if", "if"}, {"'...", "...", "..."},
	{`""`, `""`, ""}, {`"a b"`, `"a b"`, "a b"}, {`"\"\\\n"`, `"\"\\\n"`, "\"\\\n"}, {"\"a\nb\"", `"a\nb"`, "a\nb"}, {`"(x)"`, `"(x)"`, "(x)"},
	{"#true", "#t", "#t"}, {"#false", "#f", "#f"},
	{"'()", "()", "()"}, {"(list)", "()", "()"}, {"'(1)", "(1)", "(1)"}, {"'(1 2 3)", "(1 2 3)", "(1 2 3)"}, {"'(())", "(())", "(())"}, {"'(() ())", "(() ())", "(() ())"},
	{"(cons 1 2)", "(1 . 2)", "(1 . 2)"}, {"(cons 1 '())", "(1)", "(1)"}, {"(cons 1 (cons 2 3))", "(1 2 . 3)", "(1 2 . 3)"}, {"(cons (cons 1 2) 3)", "((1 . 2) . 3)", "((1 . 2) . 3)"},
	{"(cons '() '())", "(())", "(())"}, {"(cons '() 1)", "(() . 1)", "(() . 1)"}, {"'(1 (2 . 3) #f)", "(1 (2 . 3) #f)", "(1 (2 . 3) #f)"}, {"(cons 'a (cons 'b (cons 'c 'd)))", "(a b c . d)", "(a b c . d)"},
	{"''a", "(quote a)", "(quote a)"}, {"'(1 'a)", "(1 (quote a))", "(1 (quote a))"}, {"'(quote a b)", "(quote a b)", "(quote a b)"},
	{`'("a" ("b" . "\\") "")`, `("a" ("b" . "\\") "")`, `(a (b . \) )`}, {`(cons 1 "a\"")`, `(1 . "a\"")`, `(1 . a")`},
	{"car", "#<procedure>", "#<procedure>"}, {"(lambda (x) x)", "#<procedure>", "#<procedure>"}, {"(call/cc (lambda (k) k))", "#<procedure>", "#<procedure>"},
	{"(list car 1)", "(#<procedure> 1)", "(#<procedure> 1)"}, {"(cons 1 call/cc)", "(1 . #<procedure>)", "(1 . #<procedure>)"},
	{"(list (define x 1) 2)", "(#<none> 2)", "(#<none> 2)"}, {"(cons 1 (define x 1))", "(1 . #<none>)", "(1 . #<none>)"},
}

func TestTextsOfValues(t *testing.T) {
	for _, v := range valueTexts {
		gives(t, v[0], v[1])
		tells(t, v[0], v[1]+"\n")
		tells(t, "(write "+v[0]+")", v[1])
		tells(t, "(display "+v[0]+")", v[2])
		tells(t, "(list "+v[0]+" "+v[0]+")", "("+v[1]+" "+v[1]+")\n")
		tells(t, "(display (cons "+v[0]+" '()))", "("+v[2]+")")
		tells(t, "(display 1) "+v[0]+" (display 2) "+v[0], "1"+v[1]+"\n2"+v[1]+"\n")
	}
}

// None is told where it is asked for, and where it is in something, but not as a form's value.
func TestNoneIsNotTold(t *testing.T) {
	for _, text := range []string{"(define x 1)", "(begin (define x 1) (set! x 2))", "((lambda () (define y 1)))", "(if #t (define x 1) 2)", "(apply (lambda (x) (set! x 1)) '(1))"} {
		gives(t, text, "#<none>")
		tells(t, text, "")
		tells(t, text+" 1 "+text, "1\n")
		tells(t, "(write "+text+")", "#<none>")
	}
	gives(t, "(newline)", "#<none>")
	tells(t, "(newline) (newline)", "\n\n")
	tells(t, `(begin (display "a") (write "b") (newline) 'c)`, "a\"b\"\nc\n")
	tells(t, "(eq? (newline) (display 1))", "\n1#t\n")
}

// What is quoted is told as it is.
func TestQuotedIsToldAsItIs(t *testing.T) {
	many := 0
	for _, forest := range forests() {
		for _, datum := range forest {
			text := textOf([]tree{datum})
			if len(text) > 200 || many > 4000 {
				continue
			}
			// One level more than data may have is no text that runs.
			if _, code := impl.ReadData("'" + text); code == impl.ReadOk {
				many++
				gives(t, "'"+text, text)
			}
		}
	}
	deep := strings.Repeat("(", 24) + strings.Repeat(")", 24)
	gives(t, "'"+deep, deep)
	gives(t, "(quote (a . b))", "(a . b)")
}

// lines holds what forms of one text tell, a line each, against what is asked.
func lines(t *testing.T, forms []string, want []string) {
	t.Helper()
	got, code := impl.RunForms(strings.Join(forms, " "), impl.MaxFuel)
	if code != impl.RunOk || got != strings.Join(want, "\n")+"\n" {
		t.Errorf("%s: %q, %d; wanted %q", short(strings.Join(forms, " ")), got, code, want)
	}
}

func numOr(text string, ok bool) string {
	if ok {
		return text
	}
	return "error number"
}

// Sums, products and all others are those of chapter 2.
func TestSumsAreThoseOfNumbers(t *testing.T) {
	eachPair(func(a string, b string) {
		if len(a)+len(b) > 260 && (len(a)+len(b) > 1300 || a > b) {
			return
		}
		var forms, want []string
		ask := func(name string, text string, ok bool) {
			forms = append(forms, "("+name+" x y)")
			want = append(want, numOr(text, ok))
		}
		sum, ok := impl.AddNum(a, b)
		ask("+", sum, ok)
		product, ok := impl.MulNum(a, b)
		ask("*", product, ok)
		less, ok := impl.SubNum(a, b)
		ask("-", less, ok)
		if b != "0" {
			ratio, ok := impl.DivNum(a, b)
			ask("/", ratio, ok)
		} else {
			ask("/", "error divide", true)
		}
		if len(strings.Join(want, "")) > 1900 {
			forms, want = forms[:1], want[:1]
		}
		lines(t, append([]string{"(define x " + a + ") (define y " + b + ")"}, forms...), want)
	})
}

// Forms, with what is told of each.
var toldForms = [][2]string{
	{"", ""}, {" ; nothing\n", ""}, {"1", "1\n"}, {"1 2 3", "1\n2\n3\n"},
	{"(if #t 1 2)", "1\n"}, {"(if #f 1 2)", "2\n"}, {"(if #f 1)", "#f\n"}, {"(if 0 1 2)", "1\n"}, {`(if "" 1 2)`, "1\n"}, {"(if '() 1 2)", "1\n"}, {"(if (define x 1) 1 2)", "1\n"}, {"(if 'f 1 2)", "1\n"}, {"(if '#f 1 2)", "2\n"}, {"(if car 1 2)", "1\n"}, {"(if (list #f) 1 2)", "1\n"},
	{"(if (display 1) (display 2) (display 3))", "12"}, {"(if #f (display 2) (display 3))", "3"},
	{"(begin 1)", "1\n"}, {"(begin 1 2 3)", "3\n"}, {"(begin (display 1) (display 2) (display 3) 4)", "1234\n"}, {"(begin (car 1) (display 2))", "error type\n"},
	{"(define x 1) x", "1\n"}, {"(define x 1) (define x (+ x 1)) x", "2\n"}, {"(define x (car 1)) x", "error type\nerror unbound\n"}, {"(define x 1) (define x (car 1)) x", "error type\n1\n"},
	{"(define x 1) (set! x 2) x", "2\n"}, {"(define x 1) (set! x (+ x x)) (set! x (+ x x)) x", "4\n"}, {"(define x 1) (set! x (car 1)) x", "error type\n1\n"},
	{"(set! x 1) x", "error unbound\nerror unbound\n"}, {"(set! x (display 1))", "1error unbound\n"}, {"(set! car 1) (car '(2))", "error unbound\n2\n"}, {"(define car 1) car (set! car 2) car (car '(1))", "1\n2\nerror procedure\n"},
	{"x", "error unbound\n"}, {"(x)", "error unbound\n"}, {"(x (display 1))", "error unbound\n"}, {"(car x)", "error unbound\n"}, {"(1 x)", "error unbound\n"}, {"(1 (display 2))", "2error procedure\n"}, {"(1)", "error procedure\n"},
	{"((begin (display 1) list) (begin (display 2) 2) (begin (display 3) 3))", "123(2 3)\n"}, {"((display 1) (display 2))", "12error procedure\n"}, {"(\"car\" '(1))", "error procedure\n"}, {"('car '(1))", "error procedure\n"}, {"('() 1)", "error procedure\n"}, {"(#t)", "error procedure\n"}, {"('(1) 0)", "error procedure\n"},
	{"(let ((x 1)) (let ((y 2)) (+ x y)))", "3\n"}, {"(letrec ((f (lambda (n) (if (= n 0) 1 (* n (f (- n 1))))))) (f 10))", "3628800\n"}, {"(let loop ((i 3)) (cond ((= i 0) 'end) (else (display i) (loop (- i 1)))))", "321end\n"},
	{"(and 1 2) (and 1 #f 2) (or #f 3) (or (display 1) 2) (when 1 2 3) (unless 1 2)", "2\n#f\n3\n1" + "3\n#f\n"},
	{"(define-syntax twice (syntax-rules () ((_ x) (begin x x)))) (twice (display 1))", "11"}, {"(define-syntax twice (syntax-rules () ((_ x) (begin x x))))", ""},
	{"(define (f) %t) (or #f 1) (f)", "1\nerror unbound\n"},
}

func TestWhatFormsGive(t *testing.T) {
	for _, row := range toldForms {
		tells(t, row[0], row[1])
		runAsModel(t, row[0], impl.MaxFuel)
	}
}

// Names: in an inner frame, in an outer one, as a primitive, nowhere; and what define and set! change.
var toldNames = [][2]string{
	{"(define x 1) (define (f) x) (f)", "1\n"}, {"(define x 1) (define (f x) x) (f 2) x", "2\n1\n"}, {"(define (f) y) (f) (define y 3) (f)", "error unbound\n3\n"},
	{"(define (f car) car) (f 1) (car '(2))", "1\n2\n"}, {"(define (f list) (list 1)) (f 1) (f cdr) (f list)", "error procedure\nerror type\n(1)\n"}, {"(define (f) (define car 1) car) (f) (car '(2))", "1\n2\n"},
	{"((lambda (x) ((lambda (y) ((lambda (x) (list x y)) 3)) 2)) 1)", "(3 2)\n"}, {"((lambda (x) ((lambda (y) (list x y)) 2)) 1)", "(1 2)\n"},
	{"(define (f) (define x 1) x) (f) x", "1\nerror unbound\n"}, {"(define x 1) (define (f) (define x 2) x) (f) x", "2\n1\n"}, {"(define x 1) (define (f) (set! x 2) x) (f) x", "2\n2\n"}, {"(define (f) (set! x 2)) (f) x", "error unbound\nerror unbound\n"},
	{"(define x 1) (define (f x) (set! x 5) x) (f 2) x", "5\n1\n"}, {"(define x 1) (define (f) (define x 2) (set! x 3) x) (f) x", "3\n1\n"}, {"(define x 1) (define (f) (begin (set! x 2) (define x 3) (set! x 4) x)) (f) x", "4\n2\n"}, {"(define (f x) (define x 7) x) (f 1)", "7\n"}, {"(define (f x) (if x (define y 1) 2) y) (f #t) (f #f)", "1\nerror unbound\n"},
	{"(define (make) (let ((n 0)) (lambda () (set! n (+ n 1)) n))) (define a (make)) (define b (make)) (a) (a) (b) (a)", "1\n2\n1\n3\n"}, {"(define (f x) (lambda (y) (+ x y))) ((f 1) 2) ((f 10) 20)", "3\n30\n"},
	{"(define x 1) (define f (let ((x 2)) (lambda () x))) (f) (let ((x 3)) (f))", "2\n2\n"}, {"(define f (lambda () g)) (define g 1) (f) (define g 2) (f)", "1\n2\n"},
	{"(+ (begin (define x 1) 2) x)", "3\n"}, {"(define (f) (+ (begin (define q 1) 2) q)) (f) q", "3\nerror unbound\n"}, {"((lambda (x) (define y x) (list x y)) (begin (define y 5) 6)) y", "(6 6)\n5\n"},
	{"(define if1 2) if1 (define (f . f) f) (f 1 2)", "2\n(1 2)\n"}, {"(define + -) (+ 3 1) (- 3 1)", "2\n2\n"}, {"(define call/cc list) (call/cc 1)", "(1)\n"},
}

func TestNames(t *testing.T) {
	for _, row := range toldNames {
		tells(t, row[0], row[1])
		runAsModel(t, row[0], impl.MaxFuel)
	}
}

// Lambdas with a list, a dotted list and one symbol, called with too few, just enough and too many.
var toldCalls = [][2]string{
	{"((lambda () 1))", "1\n"}, {"((lambda () 1) 2)", "error arity\n"}, {"((lambda (x) x))", "error arity\n"}, {"((lambda (x) x) 1)", "1\n"}, {"((lambda (x) x) 1 2)", "error arity\n"},
	{"((lambda (x y) (list y x)) 1)", "error arity\n"}, {"((lambda (x y) (list y x)) 1 2)", "(2 1)\n"}, {"((lambda (x y) (list y x)) 1 2 3)", "error arity\n"}, {"((lambda (x y) 1))", "error arity\n"},
	{"((lambda (x . y) (list x y)))", "error arity\n"}, {"((lambda (x . y) (list x y)) 1)", "(1 ())\n"}, {"((lambda (x . y) (list x y)) 1 2)", "(1 (2))\n"}, {"((lambda (x . y) (list x y)) 1 2 3)", "(1 (2 3))\n"},
	{"((lambda (x y . z) (list x y z)) 1)", "error arity\n"}, {"((lambda (x y . z) (list x y z)) 1 2)", "(1 2 ())\n"}, {"((lambda (x y . z) (list x y z)) 1 2 3 4)", "(1 2 (3 4))\n"},
	{"((lambda x x))", "()\n"}, {"((lambda x x) 1)", "(1)\n"}, {"((lambda x x) 1 2 3)", "(1 2 3)\n"},
	{"(define (f) 1) (f) (f 1)", "1\nerror arity\n"}, {"(define (f . x) x) (f) (f 1 2)", "()\n(1 2)\n"}, {"(define (f x . y) y) (f) (f 1) (f 1 2)", "error arity\n()\n(2)\n"},
	{"((lambda (x) (display x)) (car 1))", "error type\n"}, {"((lambda () (display 1) (car 1)) (display 2))", "2error arity\n"},
	{"(apply (lambda (x y) (- x y)) '(5 3))", "2\n"}, {"(apply (lambda (x y) 1) '(5))", "error arity\n"}, {"(apply (lambda x x) '())", "()\n"}, {"(apply (lambda (x . y) (list y x)) '(1 2 3))", "((2 3) 1)\n"},
}

func TestCalls(t *testing.T) {
	for _, row := range toldCalls {
		tells(t, row[0], row[1])
		runAsModel(t, row[0], impl.MaxFuel)
	}
}

// A fault in any form is told, and ends that one alone.
func TestFaultsAreTold(t *testing.T) {
	faults := map[string]string{"x": "unbound", "(set! x 1)": "unbound", "(1)": "procedure", "(car)": "arity", "((lambda (x) x))": "arity", "(car 1)": "type", "(/ 0)": "divide", "(* " + one(310) + " " + one(310) + ")": "number"}
	for text, name := range faults {
		line := "error " + name
		for _, row := range [][3]string{
			{text, line + "\n", line},
			{text + " 1 2", line + "\n1\n2\n", "2"},
			{"1 " + text + " 2", "1\n" + line + "\n2\n", "2"},
			{"1 2 " + text, "1\n2\n" + line + "\n", line},
			{text + " " + text, line + "\n" + line + "\n", line},
			{"(display 1) (begin (display 2) " + text + " (display 3)) (display 4)", "12" + line + "\n4", "#<none>"},
			{"(list 1 (if " + text + " 2 3))", line + "\n", line},
			{"(define y " + text + ") y", line + "\nerror unbound\n", "error unbound"},
		} {
			if got := runText(row[0], impl.MaxFuel); got.told != row[1] || got.last != row[2] || got.code != impl.RunOk {
				t.Errorf("%s: %+v; wanted %q and %q", short(row[0]), got, row[1], row[2])
			}
			runAsModel(t, row[0], impl.MaxFuel)
		}
	}
	gives(t, "", "")
	gives(t, "(define-syntax m (syntax-rules () ((_) 1)))", "")
}

// What ExpandForms does not tell is not run, with any fuel.
func TestWhatIsNotExpandedIsNotRun(t *testing.T) {
	for _, text := range []string{"(", ")", "()", "(if)", "1 (if)", "(lambda)", "else", "if", "(define 1 2)", "(set! if 1)", "(1 . 2)", "(begin)", "(let ((x)) 1)", "'", "#", "\"", "(define-syntax m 1)", strings.Repeat("1 ", 301), strings.Repeat("a", 1501), strings.Repeat("(f ", 26) + strings.Repeat(")", 26), "(define-syntax m (syntax-rules () ((_) 1))) (m 1)", "(quote)", "\xff"} {
		for _, fuel := range []int{0, 1, impl.MaxFuel} {
			isNoRun(t, text, fuel)
		}
	}
	for _, text := range []string{"", "1", "(car 1)", "(define (f) (f)) (f)"} {
		for _, fuel := range []int{-1, impl.MaxFuel + 1} {
			isNoRun(t, text, fuel)
		}
	}
	// A text that would run out has no form first.
	isNoRun(t, "(define (f) (f)) (f) (if)", 0)
}
