package tests

import (
	"slices"
	"strings"
	"testing"

	"loop.example/g00201/impl"
)

func TestIsKeyword(t *testing.T) {
	for _, s := range keywords {
		if !impl.IsKeyword(s) {
			t.Errorf("IsKeyword(%q) is false", s)
		}
		near := []string{s + "*", s + " ", " " + s, s + "s", s[1:], s[:len(s)-1], strings.ToUpper(s), strings.ToUpper(s[:1]) + s[1:], s + "\x00", s + s, "(" + s + ")", "'" + s, "%" + s}
		for _, other := range near {
			if impl.IsKeyword(other) != slices.Contains(keywords, other) {
				t.Errorf("IsKeyword(%q) is %v", other, impl.IsKeyword(other))
			}
		}
	}
	for _, s := range []string{"", " ", "a", "x", "_", "...", "%t", "=>", "#t", "1", "set", "define!", "let-syntax", "letrec*", "case", "do", "not", "car", "list", "quasiquote", "syntax", "rules", "\xff"} {
		if impl.IsKeyword(s) {
			t.Errorf("IsKeyword(%q) is true", s)
		}
	}
}

// coreForms are core forms, as DataText tells them.
var coreForms = []string{
	"1", "-1/2", `"a b"`, `""`, `"\n\"\\"`, "#t", "#f", "a", "...", "_", "%t", "=>", "car", "define-syntax!",
	"(quote a)", "(quote if)", "(quote ())", "(quote (a . b))", "(quote (quote))", "(quote (if))", "(quote (lambda))", "(quote (let ((x 1)) x))", "(quote 1)", `(quote "a")`,
	"(if a b c)", "(if (if a b c) (quote if) 1)", "(define x 1)", "(define x (define y 2))", "(set! x 1)", "(set! ... 1)",
	"(lambda () 1)", "(lambda (x) x)", "(lambda (x y z) x)", "(lambda (x . y) x)", "(lambda (x y . z) x)", "(lambda x x)", "(lambda (...) 1)", "(lambda (x) (lambda (x) x))", "(lambda x (lambda x x))",
	"(begin 1)", "(begin 1 2)", "(begin (begin 1) (define x 2) 3)",
	"(a)", "(a b)", "(a b c d e)", "((a))", "((lambda (x) x) 1)", "(1)", "(1 2)", `("a")`, "(#t #f)", "((quote if) 1)", "(((a) b) c)", "((if a b c) d)", "((define x 1))",
	"1 2", "a a", "(define x 1) x (x)", "",
}

// noForms are no core forms, and told by no simpler ones.
var noForms = []string{
	"()", "(())", "(a ())", "((a) () b)", "(a . b)", "(a b . c)", "(f (a . b))", "(1 . 2)",
	"(quote)", "(quote a b)", "(quote . a)", "(quote a . b)", "(if)", "(if a)", "(if a b c d)", "(if . a)", "(if a . b)", "(if a b . c)", "(if a b c . d)", "(if () b c)", "(if a () c)", "(if a b ())",
	"(define)", "(define x)", "(define x 1 2)", "(define 1 2)", `(define "x" 1)`, "(define #t 1)", "(define () 1)", "(define (f))", "(define (f x))", "(define x . 1)", "(define . x)", "(define x 1 . 2)", "(define x ())",
	"(define (1) 2)", "(define (f 1) 2)", "(define (f . 1) 2)", `(define (f . "a") 2)`, "(define (f . #t) 2)", "(define (f x x) 1)", "(define (f x . x) 1)", "(define (if x) 1)", "(define (f if) 1)", "(define (f . if) 1)", "(define (f a . if) 1)", "(define (f (x)) 1)", "(define (f) . 1)", "(define (() x) 1)", "(define ((if) x) 1)",
	"(set!)", "(set! x)", "(set! x 1 2)", "(set! 1 2)", "(set! (f) 1)", "(set! (f x) 1)", "(set! () 1)", "(set! x . 1)", "(set! x ())",
	"(lambda)", "(lambda ())", "(lambda (x))", "(lambda x)", "(lambda 1 2)", "(lambda (1) 2)", `(lambda "x" 1)`, `(lambda ("x") 1)`, "(lambda #t 1)", "(lambda (x x) 1)", "(lambda (x y x) 1)", "(lambda (x . x) 1)", "(lambda (x y . x) 1)", "(lambda ((x)) 1)", "(lambda (()) 1)", "(lambda ((x) . y) 1)", "(lambda (x . 1) 1)", "(lambda (x x) 1 2)", "(lambda 1 2 3)", "(lambda () . 1)", "(lambda () ())", "(lambda () 1 . 2)",
	"(begin)", "(begin . a)", "(begin a . b)", "(begin ())", "(begin 1 ())",
	"(let)", "(let ())", "(let x)", "(let x 1)", "(let x ())", "(let x 1 2)", "(let ((x 1)))", "(let (x) 1)", "(let ((x)) 1)", "(let ((x 1 2)) 3)", "(let ((x . 1)) 2)", "(let ((x 1) . y) 2)", "(let (()) 1)", "(let 1 2)", "(let 1 () 2)", "(let #t () 2)", `(let "f" () 2)`, "(let (f) () 2)", "(let ((1 2)) 3)", "(let ((x 1) (x 2)) x)", "(let ((x 1)) . x)", "(let () ())", "(let ((x ())) x)", "(let (((f x) 1)) 2)",
	"(let f ((x)) 1)", "(let f (x) 1)", "(let f ((x 1)))", "(let f ((x 1) (x 2)) x)", "(let f ((1 2)) 3)", "(let f ((x 1) . y) x)", "(let f ((x . 1)) x)",
	"(let*)", "(let* ())", "(let* x 1)", "(let* x () 1)", "(let* (x) 1)", "(let* ((x)) 1)", "(let* ((x 1)))", "(let* ((x 1 2)) 3)", "(let* ((x . 1)) 2)", "(let* ((x 1) . y) 2)", "(let* ((1 2)) 3)", "(let* ((x 1) (y)) 2)", "(let* ((x 1) y) 2)", "(let* ((x 1) ()) 2)", "(let* () . 1)", "(let* 1 2)",
	"(letrec)", "(letrec ())", "(letrec x 1)", "(letrec x () 1)", "(letrec (x) 1)", "(letrec ((x)) 1)", "(letrec ((x 1)))", "(letrec ((x 1 2)) 3)", "(letrec ((x . 1)) 2)", "(letrec ((x 1) (x 2)) x)", "(letrec ((1 2)) 3)", "(letrec ((x 1) . y) 2)", "(letrec ((x ())) 1)",
	"(cond 1)", "(cond a)", "(cond ())", "(cond (1 2) ())", "(cond (1 . 2))", "(cond (1) 2)", "(cond . a)", "(cond (1 2) . a)", "(cond (else))", "(cond (1 2) (else))", "(cond (else 1) (2 3))", "(cond (else 1) (else 2))", "(cond (else . 1))", "(cond (else 1 . 2))", "(cond else)", "(cond (1 2) else)", "(cond (else) (1 2))", "(cond (1 else))", "(cond ((else) 1))", "(cond (() 1))",
	"(and . a)", "(and 1 . 2)", "(and ())", "(and 1 ())", "(or . a)", "(or 1 . 2)", "(or ())", "(or 1 ())", "(or () 1)", "(and else)", "(or else)",
	"(when)", "(when 1)", "(when . 1)", "(when 1 . 2)", "(when 1 2 . 3)", "(when () 1)", "(when 1 ())", "(unless)", "(unless 1)", "(unless . 1)", "(unless 1 . 2)", "(unless 1 2 . 3)", "(unless () 1)", "(unless 1 ())",
	"(else)", "(else 1)", "(syntax-rules)", "(syntax-rules ())", "(syntax-rules () ((_ x) x))", "(define-syntax)", "(define-syntax m)", "(define-syntax m 1)", "(define x (syntax-rules ()))",
	"(begin (define-syntax m (syntax-rules () ((_) 1))))", "(and (define-syntax m (syntax-rules () ((_) 1))))", "(let () (define-syntax m (syntax-rules () ((_) 1))) 1)",
}

func TestIsCore(t *testing.T) {
	for _, s := range coreForms {
		if !impl.IsCore(s) {
			t.Errorf("IsCore(%q) is false", s)
		}
		expandsTo(t, s, s)
		for _, inner := range []string{"(if a b " + s + ")", "(define x " + s + ")", "(set! x " + s + ")", "(lambda y " + s + ")", "(begin " + s + " a)", "(a " + s + ")"} {
			if l, _ := impl.ReadData(s); len(treesOf(l)) == 1 && !impl.IsCore(inner) {
				t.Errorf("IsCore(%q) is false", inner)
			}
		}
		if spaced := " ; a\n\t" + s + "\r;"; !impl.IsCore(spaced) {
			t.Errorf("IsCore(%q) is false", spaced)
		}
	}
	for _, s := range []string{"(if a b c) ; )", "'a", "''a", "'(if)", "#true", "(define x #false)", "+007", "2/4", "#xff"} {
		if !impl.IsCore(s) {
			t.Errorf("IsCore(%q) is false", s)
		}
	}
}

func TestIsNoCore(t *testing.T) {
	for _, s := range append(slices.Clone(noForms), keywords...) {
		if impl.IsCore(s) {
			t.Errorf("IsCore(%q) is true", s)
		}
		around := []string{"1 " + s, s + " 1", "(if a b " + s + ")", "(if " + s + " b c)", "(define x " + s + ")", "(set! x " + s + ")", "(lambda y " + s + ")", "(begin " + s + " a)", "(a " + s + ")", "(" + s + ")", "((lambda (x) x) " + s + ")"}
		for _, other := range around {
			if impl.IsCore(other) {
				t.Errorf("IsCore(%q) is true", other)
			}
		}
		if !impl.IsCore("(quote " + s + ")") {
			t.Errorf("IsCore of a quoted %q is false", s)
		}
	}
	for _, keyword := range keywords {
		for _, s := range []string{"(define " + keyword + " 1)", "(set! " + keyword + " 1)", "(lambda " + keyword + " 1)", "(lambda (" + keyword + ") 1)", "(lambda (a . " + keyword + ") 1)", "(lambda (a " + keyword + " . b) 1)", "(" + keyword + ")", "(a " + keyword + ")", "(if a b " + keyword + ")", "((a) (b " + keyword + "))"} {
			if impl.IsCore(s) {
				t.Errorf("IsCore(%q) is true", s)
			}
		}
	}
	simpler := []string{"(if a b)", "(define (f) 1)", "(define (f . x) 1)", "(lambda () 1 2)", "(let () 1)", "(let f () 1)", "(let* () 1)", "(letrec () 1)", "(cond)", "(cond (1))", "(and)", "(and 1)", "(or)", "(or 1)", "(when 1 2)", "(unless 1 2)", "(define-syntax m (syntax-rules () ((_) 1)))"}
	for _, s := range simpler {
		if impl.IsCore(s) || impl.IsCore("(a "+s+")") || impl.IsCore("1 "+s) {
			t.Errorf("IsCore(%q) is true", s)
		}
	}
	for _, s := range []string{"(", ")", "(a", "a)", "\"", "'", ".", "(a .)", strings.Repeat("a ", 301), strings.Repeat("(", 26) + strings.Repeat(")", 26), strings.Repeat(" ", 1501), "#x", "\xff", "[a]"} {
		if impl.IsCore(s) {
			t.Errorf("IsCore(%q) is true", short(s))
		}
	}
}

// simplerForms are forms, and the core forms that tell them.
var simplerForms = [][2]string{
	{"(if a b)", "(if a b #f)"},
	{"(if (if a b) (if c d))", "(if (if a b #f) (if c d #f) #f)"},
	{"(define (f) 1)", "(define f (lambda () 1))"},
	{"(define (f x) x)", "(define f (lambda (x) x))"},
	{"(define (f x y) 1 2 3)", "(define f (lambda (x y) (begin 1 2 3)))"},
	{"(define (f . r) r)", "(define f (lambda r r))"},
	{"(define (f x . r) r)", "(define f (lambda (x . r) r))"},
	{"(define (f x y . r) r (if r x))", "(define f (lambda (x y . r) (begin r (if r x #f))))"},
	{"(define (f) (define (g) 1) g)", "(define f (lambda () (begin (define g (lambda () 1)) g)))"},
	{"(define ((f x) y) x)", "(define f (lambda (x) (lambda (y) x)))"},
	{"(define ((f . x) . y) x)", "(define f (lambda x (lambda y x)))"},
	{"(lambda () 1 2)", "(lambda () (begin 1 2))"},
	{"(lambda x 1 2 3)", "(lambda x (begin 1 2 3))"},
	{"(lambda (x . y) (if x y) y)", "(lambda (x . y) (begin (if x y #f) y))"},
	{"(let () 1)", "((lambda () 1))"},
	{"(let () 1 2)", "((lambda () (begin 1 2)))"},
	{"(let ((x 1)) x)", "((lambda (x) x) 1)"},
	{"(let ((x 1) (y 2)) (f x) y)", "((lambda (x y) (begin (f x) y)) 1 2)"},
	{"(let ((x (let ((y 1)) y))) x)", "((lambda (x) x) ((lambda (y) y) 1))"},
	{"(let f () 1)", "(((lambda (f) (begin (set! f (lambda () 1)) ((lambda () f)))) #f))"},
	{"(let f ((x 1)) (f x))", "(((lambda (f) (begin (set! f (lambda (x) (f x))) ((lambda () f)))) #f) 1)"},
	{"(let f ((x 1) (y 2)) y (f x))", "(((lambda (f) (begin (set! f (lambda (x y) (begin y (f x)))) ((lambda () f)))) #f) 1 2)"},
	{"(let* () 1)", "((lambda () 1))"},
	{"(let* () 1 2)", "((lambda () (begin 1 2)))"},
	{"(let* ((x 1)) x)", "((lambda (x) ((lambda () x))) 1)"},
	{"(let* ((x 1) (x x)) x x)", "((lambda (x) ((lambda (x) ((lambda () (begin x x)))) x)) 1)"},
	{"(let* ((x 1) (y 2) (z 3)) z)", "((lambda (x) ((lambda (y) ((lambda (z) ((lambda () z))) 3)) 2)) 1)"},
	{"(letrec () 1)", "((lambda () ((lambda () 1))))"},
	{"(letrec () 1 2)", "((lambda () ((lambda () (begin 1 2)))))"},
	{"(letrec ((x 1)) x)", "((lambda (x) (begin (set! x 1) ((lambda () x)))) #f)"},
	{"(letrec ((f g) (g f)) 1 f)", "((lambda (f g) (begin (set! f g) (set! g f) ((lambda () (begin 1 f))))) #f #f)"},
	{"(cond)", "#f"},
	{"(cond (else 1))", "(begin 1)"},
	{"(cond (else 1 2))", "(begin 1 2)"},
	{"(cond (a))", "((lambda (%t) (if %t %t #f)) a)"},
	{"(cond (a) (else b))", "((lambda (%t) (if %t %t (begin b))) a)"},
	{"(cond (a) (b))", "((lambda (%t) (if %t %t ((lambda (%t) (if %t %t #f)) b))) a)"},
	{"(cond (a b))", "(if a (begin b) #f)"},
	{`(cond ("else" a))`, `(if "else" (begin a) #f)`},
	{"(cond (a b c) (d e))", "(if a (begin b c) (if d (begin e) #f))"},
	{"(cond (a b) (else c d))", "(if a (begin b) (begin c d))"},
	{"(cond ((cond) (cond)))", "(if #f (begin #f) #f)"},
	{"(and)", "#t"}, {"(and a)", "a"}, {"(and (and))", "#t"}, {"(and a b)", "(if a b #f)"}, {"(and a b c)", "(if a (if b c #f) #f)"},
	{"(or)", "#f"}, {"(or a)", "a"}, {"(or (or))", "#f"}, {"(or a b)", "((lambda (%t) (if %t %t b)) a)"}, {"(or a b c)", "((lambda (%t) (if %t %t ((lambda (%t) (if %t %t c)) b))) a)"},
	{"(or %t (f %t))", "((lambda (%t) (if %t %t (f %t))) %t)"},
	{"(when a b)", "(if a (begin b) #f)"}, {"(when a b c)", "(if a (begin b c) #f)"}, {"(when (and) (or))", "(if #t (begin #f) #f)"},
	{"(unless a b)", "(if a #f (begin b))"}, {"(unless a b c)", "(if a #f (begin b c))"},
	{"(define x (if a b))", "(define x (if a b #f))"}, {"(set! x (if a b))", "(set! x (if a b #f))"}, {"(begin (and) (or))", "(begin #t #f)"}, {"(f (and) (or))", "(f #t #f)"}, {"((or) (and))", "(#f #t)"},
	{"((let () car) (and a))", "(((lambda () car)) a)"},
	{"(lambda (x) (and))", "(lambda (x) #t)"},
	{"'a", "(quote a)"}, {"'(if a b)", "(quote (if a b))"}, {"'(and)", "(quote (and))"}, {"''(and)", "(quote (quote (and)))"}, {"(and '(and))", "(quote (and))"}, {"'(lambda)", "(quote (lambda))"}, {"'(define-syntax)", "(quote (define-syntax))"}, {"(let ((x '(let))) x)", "((lambda (x) x) (quote (let)))"}, {"'(a . if)", "(quote (a . if))"}, {"'()", "(quote ())"}, {"'else", "(quote else)"},
	{"", ""}, {" ; none", ""}, {"(and) (or)", "#t #f"}, {"1 ;a\n 'b", "1 (quote b)"}, {"#true +2/4", "#t 1/2"},
}

func TestSimplerForms(t *testing.T) {
	for _, row := range simplerForms {
		expandsTo(t, row[0], row[1])
		if !impl.IsCore(row[1]) {
			t.Errorf("IsCore(%q) is false", row[1])
		}
		expandsTo(t, row[1], row[1])
		if l, _ := impl.ReadData(row[0]); len(treesOf(l)) == 1 {
			expandsTo(t, "(if a b "+row[0]+")", "(if a b "+row[1]+")")
			expandsTo(t, "(define x "+row[0]+") (x "+row[0]+")", "(define x "+row[1]+") (x "+row[1]+")")
			expandsTo(t, "(quote "+row[0]+")", "(quote "+textOf(read(row[0]))+")")
		}
	}
}

func TestFormsThatAreNone(t *testing.T) {
	for _, s := range append(slices.Clone(noForms), keywords...) {
		for _, text := range []string{s, "1 " + s, s + " 1", "(a " + s + ")", "(and 1 " + s + ")", "(let ((x " + s + ")) x)", "(lambda () 1 " + s + ")", "(cond (1 " + s + "))"} {
			expandFails(t, text, nil, impl.ExpandForm)
		}
		expandsTo(t, "(quote "+s+")", "(quote "+textOf(read(s))+")")
	}
}

// A keyword may stand nowhere but ahead of its form.
func TestKeywordsWhereNoneMayStand(t *testing.T) {
	for _, k := range keywords {
		for _, s := range []string{"(define K 1)", "(set! K 1)", "(lambda K 1)", "(lambda (K) 1)", "(lambda (a K b) 1)", "(lambda (a . K) 1)", "(define (K) 1)", "(define (f K) 1)", "(define (f . K) 1)", "(let ((K 1)) 1)", "(let K () 1)", "(let K ((x 1)) x)", "(let f ((K 1)) 1)", "(let* ((K 1)) 1)", "(letrec ((K 1)) 1)", "(f K)", "(if K 1 2)", "(if 1 2 K)", "(begin K)", "(and K 1)", "(or 1 K)", "(when K 1)", "(unless 1 K)", "(cond (K 1) (2 3))", "(cond (1 K))", "((f K))", "((begin K) 1)"} {
			expandFails(t, strings.ReplaceAll(s, "K", k), nil, impl.ExpandForm)
		}
		expandsTo(t, strings.ReplaceAll("(f 'K)", "K", k), "(f (quote "+k+"))")
	}
}

// holes are forms with A for a form, X for a symbol and D for a datum.
var holes = []string{
	"A", "(if A A)", "(if A A A)", "(define X A)", "(define (X) A)", "(define (X X) A A)", "(define (X . X) A)", "(define (X X . X) A)", "(set! X A)", "(lambda X A)", "(lambda () A A)", "(lambda (X) A)", "(lambda (X X) A A A)", "(lambda (X . X) A)", "(begin A)", "(begin A A)", "(quote D)",
	"(let () A)", "(let ((X A)) A)", "(let ((X A) (X A)) A A)", "(let X () A)", "(let X ((X A)) A)", "(let* () A)", "(let* ((X A)) A)", "(let* ((X A) (X A)) A)", "(letrec () A)", "(letrec ((X A)) A)", "(letrec ((X A) (X A)) A A)",
	"(cond)", "(cond (A))", "(cond (A A))", "(cond (else A))", "(cond (A) (A A))", "(cond (A A A) (else A))", "(cond (else A) (A A))", "(and)", "(and A)", "(and A A)", "(and A A A)", "(or)", "(or A)", "(or A A)", "(or A A A)", "(when A A)", "(when A A A)", "(unless A A)", "(unless A A A)", "(A)", "(A A)", "(X A)", "(X A A)", "(A A A A)",
}

// formTree makes a form, mostly one that is told by simpler ones; now and then with something wrong in it.
func (d *dice) formTree(deep int, wrong int) tree {
	text := holes[0]
	if deep > 0 {
		text = holes[d.below(len(holes))]
	}
	return d.fillHoles(read(text)[0], deep, wrong)
}

func (d *dice) fillHoles(p tree, deep int, wrong int) tree {
	if wrong > 0 && d.below(wrong) == 0 {
		return read([]string{"()", "else", "if", "(a . b)", "lambda", "(if)", "(define)", "((x 1) . y)", "1"}[d.below(9)])[0]
	}
	switch {
	case isSym(p, "A") && deep > 0:
		return d.formTree(deep-1, wrong)
	case isSym(p, "A"):
		return read([]string{"1", "x", "y", `"s"`, "#t", "'x", "f"}[d.below(7)])[0]
	case isSym(p, "X"):
		return symTree([]string{"x", "y", "z", "f", "g", "h", "%t", "m"}[d.below(8)])
	case isSym(p, "D"):
		return read([]string{"(if)", "()", "(a . b)", "(m 1)", "else", "(x y)"}[d.below(6)])[0]
	}
	out := tree{kind: p.kind, text: p.text}
	for _, part := range p.parts {
		if wrong > 0 && d.below(2*wrong) == 0 {
			continue
		}
		out.parts = append(out.parts, d.fillHoles(part, deep, wrong))
		if wrong > 0 && d.below(2*wrong) == 0 {
			out.parts = append(out.parts, d.leaf())
		}
	}
	if n := len(out.parts); out.kind == impl.DatumDotted && (n < 2 || out.parts[n-1].kind >= impl.DatumList) {
		out.kind = impl.DatumList
	}
	return out
}

// Promise 4, of forms that are made by dice: what is expanded is core forms, and stays as it is; and it is what the
// document's simpler forms make.
func TestExpandFormsAsModel(t *testing.T) {
	d := &dice{state: 61}
	count := map[int]int{}
	for n := range 12000 {
		var forms []tree
		for range 1 + d.below(3) {
			forms = append(forms, d.formTree(d.below(6), []int{0, 0, 60, 12}[n%4]))
		}
		text := textOf(forms)
		if len(text) > impl.MaxText {
			continue
		}
		code := expandAsModel(t, text, nil)
		count[code]++
		got, _, _ := impl.ExpandForms(text, nil)
		if !impl.IsCore(got) {
			t.Errorf("%q is expanded to %q, no core forms", text, got)
		}
		if again, _, code := impl.ExpandForms(got, nil); again != got || code != impl.ExpandOk {
			t.Errorf("%q is expanded to %q, and this to %q, %d", text, got, again, code)
		}
		if told, _ := impl.DataText(nodesOf(forms)); impl.IsCore(text) != (code == impl.ExpandOk && got == told) {
			t.Errorf("IsCore(%q) is %v, and it is expanded to %q, %d", text, impl.IsCore(text), got, code)
		}
	}
	if count[impl.ExpandOk] < 2000 || count[impl.ExpandForm] < 2000 || count[impl.ExpandMany] < 20 {
		t.Error("the forms are of too few kinds:", count)
	}
}

// All lists of few parts, each a keyword or something else.
func TestSmallForms(t *testing.T) {
	parts := append([]string{"x", "1", "()", "(x)", "(x 1)", "((x 1))", "(else 1)", "(x . y)"}, keywords...)
	for _, a := range parts {
		expandAsModel(t, a, nil)
		expandAsModel(t, "("+a+")", nil)
		for _, b := range parts {
			expandAsModel(t, "("+a+" "+b+")", nil)
			if b != "()" && b[0] != '(' {
				expandAsModel(t, "("+a+" . "+b+")", nil)
			}
			for _, c := range parts[:12] {
				expandAsModel(t, "("+a+" "+b+" "+c+")", nil)
				expandAsModel(t, "("+a+" "+b+" "+c+" x)", nil)
			}
		}
	}
}
