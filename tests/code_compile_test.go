package tests

import (
	"slices"
	"strconv"
	"strings"
	"testing"

	"loop.example/g00201/impl"
)

// isCompiled asks for instructions, and for them of their text.
func isCompiled(t *testing.T, text string, want []impl.Instr) {
	t.Helper()
	got, code := impl.CompileForms(text)
	if code != impl.RunOk || !slices.Equal(got, want) {
		t.Errorf("%s: %d\n%v; wanted\n%v", short(text), code, got, want)
	}
	comeBack(t, got)
	if model, code := modelCode(text); code != impl.RunOk || !slices.Equal(model, want) {
		t.Errorf("%s: the model has %v; wanted %v", short(text), model, want)
	}
}

// compiledForms are texts and their code, each form alone, within others, and last in a lambda.
var compiledForms = [][2]string{
	{"", "stop"}, {" ; nothing\n", "stop"}, {"1", "const 1|end|stop"}, {"x", "name x|end|stop"}, {"1 x", "const 1|end|name x|end|stop"}, {"x x x", "name x|end|name x|end|name x|end|stop"},
	// Constants and quotes have the datum's text.
	{"-4/6", "const -2/3|end|stop"}, {"#xfF", "const 255|end|stop"}, {"007", "const 7|end|stop"}, {"#true", "const #t|end|stop"}, {"#false", "const #f|end|stop"}, {`""`, `const ""|end|stop`}, {`"a b"`, `const "a b"|end|stop`}, {`"\"\\\n"`, `const "\"\\\n"|end|stop`}, {"\"a\nb\"", `const "a\nb"|end|stop`},
	{"'a", "const a|end|stop"}, {"(quote a)", "const a|end|stop"}, {"'if", "const if|end|stop"}, {"'+6/4", "const 3/2|end|stop"}, {"'\"s\"", "const \"s\"|end|stop"}, {"'#false", "const #f|end|stop"}, {"'()", "const ()|end|stop"}, {"'(  a   .  b )", "const (a . b)|end|stop"}, {"''a", "const (quote a)|end|stop"}, {"'(if)", "const (if)|end|stop"}, {"'(lambda (x) x)", "const (lambda (x) x)|end|stop"}, {"'(1 (\"a\" #t) . x)", "const (1 (\"a\" #t) . x)|end|stop"},
	{"(lambda () 1)", "lambda 3 ()|end|stop|const 1|return"}, {"(lambda () \"a\")", "lambda 3 ()|end|stop|const \"a\"|return"}, {"(lambda () #f)", "lambda 3 ()|end|stop|const #f|return"}, {"(lambda () '(a))", "lambda 3 ()|end|stop|const (a)|return"}, {"(lambda (x) x)", "lambda 3 (x)|end|stop|name x|return"}, {"(lambda (x y) y)", "lambda 3 (x y)|end|stop|name y|return"}, {"(lambda x x)", "lambda 3 x|end|stop|name x|return"}, {"(lambda ( x  y .  z) z)", "lambda 3 (x y . z)|end|stop|name z|return"},
	// Calls with none, one and many arguments, within each other, and last.
	{"(f)", "name f|call 0|end|stop"}, {"(f 1)", "name f|const 1|call 1|end|stop"}, {"(f 1 x 'y \"z\")", "name f|const 1|name x|const y|const \"z\"|call 4|end|stop"}, {"(1)", "const 1|call 0|end|stop"}, {"('f 2)", "const f|const 2|call 1|end|stop"}, {"(f (g))", "name f|name g|call 0|call 1|end|stop"}, {"((f))", "name f|call 0|call 0|end|stop"}, {"((f) 1)", "name f|call 0|const 1|call 1|end|stop"}, {"(f (g 1) (h 2 3))", "name f|name g|const 1|call 1|name h|const 2|const 3|call 2|call 2|end|stop"},
	{"(lambda () (f))", "lambda 3 ()|end|stop|name f|tail 0"}, {"(lambda () (f 1 2))", "lambda 3 ()|end|stop|name f|const 1|const 2|tail 2"}, {"(lambda () (f (g 1)))", "lambda 3 ()|end|stop|name f|name g|const 1|call 1|tail 1"}, {"(lambda () ((f)))", "lambda 3 ()|end|stop|name f|call 0|tail 0"}, {"((lambda (x) x) 5)", "lambda 5 (x)|const 5|call 1|end|stop|name x|return"}, {"(lambda () ((lambda () 1)))", "lambda 3 ()|end|stop|lambda 5 ()|tail 0|const 1|return"}, {"(lambda (f) (car f))", "lambda 3 (f)|end|stop|name car|name f|tail 1"},
	// An if, and what stands in one.
	{"(if a b c)", "name a|false 4|name b|jump 5|name c|end|stop"}, {"(if a b)", "name a|false 4|name b|jump 5|const #f|end|stop"}, {"(lambda () (if a b c))", "lambda 3 ()|end|stop|name a|false 7|name b|return|name c|return"},
	{"(if (if a b c) d e)", "name a|false 4|name b|jump 5|name c|false 8|name d|jump 9|name e|end|stop"}, {"(if a (if b c d) e)", "name a|false 8|name b|false 6|name c|jump 7|name d|jump 9|name e|end|stop"}, {"(if a b (if c d e))", "name a|false 4|name b|jump 9|name c|false 8|name d|jump 9|name e|end|stop"},
	{"(lambda () (if (if a b c) d e))", "lambda 3 ()|end|stop|name a|false 7|name b|jump 8|name c|false 11|name d|return|name e|return"}, {"(lambda () (if a (if b c d) e))", "lambda 3 ()|end|stop|name a|false 11|name b|false 9|name c|return|name d|return|name e|return"}, {"(lambda () (if a b (if c d e)))", "lambda 3 ()|end|stop|name a|false 7|name b|return|name c|false 11|name d|return|name e|return"},
	{"(if a (begin b c) (begin d e))", "name a|false 6|name b|drop|name c|jump 9|name d|drop|name e|end|stop"}, {"(if (begin a b) c d)", "name a|drop|name b|false 6|name c|jump 7|name d|end|stop"}, {"(lambda () (if a (begin b c) (begin d e)))", "lambda 3 ()|end|stop|name a|false 9|name b|drop|name c|return|name d|drop|name e|return"},
	{"(if (f) (g) (h))", "name f|call 0|false 6|name g|call 0|jump 8|name h|call 0|end|stop"}, {"(lambda (x) (if (f x) (g x) (h)))", "lambda 3 (x)|end|stop|name f|name x|call 1|false 10|name g|name x|tail 1|name h|tail 0"}, {"(f (if a b c) d)", "name f|name a|false 5|name b|jump 6|name c|name d|call 2|end|stop"}, {"(lambda () (f (if a b c)))", "lambda 3 ()|end|stop|name f|name a|false 8|name b|jump 9|name c|tail 1"},
	{"(if a (define x 1) (set! x 2))", "name a|false 5|const 1|define x|jump 7|const 2|set x|end|stop"}, {"(lambda () (if a (define x 1) (set! x 2)))", "lambda 3 ()|end|stop|name a|false 8|const 1|define x|return|const 2|set x|return"}, {"(if a (lambda () 1) (lambda () 2))", "name a|false 4|lambda 7 ()|jump 5|lambda 9 ()|end|stop|const 1|return|const 2|return"},
	// define and set!, last and not last.
	{"(define x 1)", "const 1|define x|end|stop"}, {"(set! x 1)", "const 1|set x|end|stop"}, {"(define x y)", "name y|define x|end|stop"}, {"(lambda () (define x 1))", "lambda 3 ()|end|stop|const 1|define x|return"}, {"(lambda () (set! x 1))", "lambda 3 ()|end|stop|const 1|set x|return"}, {"(lambda () (define x (f)))", "lambda 3 ()|end|stop|name f|call 0|define x|return"}, {"(lambda () (begin (define x 1) (set! x 2)))", "lambda 3 ()|end|stop|const 1|define x|drop|const 2|set x|return"}, {"(set! x (set! y (define z 1)))", "const 1|define z|set y|set x|end|stop"}, {"(define x (if a b c))", "name a|false 4|name b|jump 5|name c|define x|end|stop"}, {"(define x (begin a b))", "name a|drop|name b|define x|end|stop"}, {"(define f (lambda (x) x))", "lambda 4 (x)|define f|end|stop|name x|return"}, {"(f (define x 1))", "name f|const 1|define x|call 1|end|stop"},
	{"(begin a)", "name a|end|stop"}, {"(begin 1 2 3)", "const 1|drop|const 2|drop|const 3|end|stop"}, {"(begin (begin a b) c)", "name a|drop|name b|drop|name c|end|stop"}, {"(begin a (begin b c))", "name a|drop|name b|drop|name c|end|stop"}, {"(lambda () (begin a))", "lambda 3 ()|end|stop|name a|return"}, {"(lambda () (begin (f) (g)))", "lambda 3 ()|end|stop|name f|call 0|drop|name g|tail 0"}, {"(lambda () (begin (if a b c) (if d e f)))", "lambda 3 ()|end|stop|name a|false 7|name b|jump 8|name c|drop|name d|false 13|name e|return|name f|return"}, {"(begin (define x 1) x)", "const 1|define x|drop|name x|end|stop"}, {"(f (begin a b))", "name f|name a|drop|name b|call 1|end|stop"}, {"(begin (lambda () 1) (lambda () 2))", "lambda 5 ()|drop|lambda 7 ()|end|stop|const 1|return|const 2|return"},
	// Bodies stand in the order of their lambdas, those within bodies behind all that stand ahead.
	{"(lambda (x) (lambda (y) x))", "lambda 3 (x)|end|stop|lambda 5 (y)|return|name x|return"}, {"(f (lambda (x) x) (lambda (y) 1))", "name f|lambda 6 (x)|lambda 8 (y)|call 2|end|stop|name x|return|const 1|return"}, {"(define f (lambda () 1)) (define g (lambda () 2))", "lambda 7 ()|define f|end|lambda 9 ()|define g|end|stop|const 1|return|const 2|return"},
	{"((lambda (a) (lambda (b) b)) (lambda (c) (lambda (d) d)))", "lambda 5 (a)|lambda 7 (c)|call 1|end|stop|lambda 9 (b)|return|lambda 11 (d)|return|name b|return|name d|return"},
	{"(lambda () (begin (lambda () 1) (lambda () (lambda () 2)))) (lambda () 3)", "lambda 5 ()|end|lambda 9 ()|end|stop|lambda 11 ()|drop|lambda 13 ()|return|const 3|return|const 1|return|lambda 15 ()|return|const 2|return"},
	{"(lambda () (if (lambda () 1) (lambda () 2) (lambda () 3)))", "lambda 3 ()|end|stop|lambda 9 ()|false 7|lambda 11 ()|return|lambda 13 ()|return|const 1|return|const 2|return|const 3|return"}, {"(lambda () ((lambda () 1) (lambda () 2)))", "lambda 3 ()|end|stop|lambda 6 ()|lambda 8 ()|tail 1|const 1|return|const 2|return"},
	// Forms that are told by simpler ones.
	{"(define (f . x) x)", "lambda 4 x|define f|end|stop|name x|return"}, {"(define (f x) 1 x)", "lambda 4 (x)|define f|end|stop|const 1|drop|name x|return"}, {"(let ((x 1)) x)", "lambda 5 (x)|const 1|call 1|end|stop|name x|return"}, {"(and a b)", "name a|false 4|name b|jump 5|const #f|end|stop"}, {"(cond (a b) (else c))", "name a|false 4|name b|jump 5|name c|end|stop"}, {"(or a b)", "lambda 5 (%t)|name a|call 1|end|stop|name %t|false 9|name %t|return|name b|return"}, {"(define-syntax m (syntax-rules () ((_) 1)))", "stop"}, {"(define-syntax m (syntax-rules () ((_) 1))) (m) (f (m))", "const 1|end|name f|const 1|call 1|end|stop"},
}

func TestCompiledForms(t *testing.T) {
	for _, row := range compiledForms {
		isCompiled(t, row[0], written(row[1]))
	}
}

// As many instructions as a text can have: two for each node, and one. So MaxCode is beyond what any text comes to.
func TestMostInstructions(t *testing.T) {
	for _, row := range []struct {
		text string
		many int
	}{
		{strings.Repeat("1 ", impl.MaxNodes), 2*impl.MaxNodes + 1},
		{"(begin " + strings.Repeat("1 ", impl.MaxNodes-2) + ")", 2*(impl.MaxNodes-2) + 1},
		{"(lambda x (begin " + strings.Repeat("1 ", impl.MaxNodes-5) + "))", 3 + 2*(impl.MaxNodes-5)},
		{"(f " + strings.Repeat("x ", impl.MaxNodes-2) + ")", impl.MaxNodes + 2},
		{strings.Repeat("(x)", impl.MaxNodes/2), 3*impl.MaxNodes/2 + 1},
		{strings.Repeat("(lambda x 1)", 75), 75*4 + 1},
	} {
		want, _ := modelCode(row.text)
		if len(want) != row.many {
			t.Errorf("%s: the model has %d instructions; wanted %d", short(row.text), len(want), row.many)
		}
		isCompiled(t, row.text, want)
		if got, code := impl.CompileForms(row.text + strings.Repeat("1 ", impl.MaxNodes)); len(got) != 0 || code != impl.RunForm {
			t.Errorf("%s and %d more: %d instructions, %d", short(row.text), impl.MaxNodes, len(got), code)
		}
	}
	many := strings.Repeat(" 1", impl.MaxNodes-2)
	l, _ := impl.CompileForms("(f" + many + ")")
	if at := len(l) - 3; l[at] != (impl.Instr{Op: impl.OpCall, A: impl.MaxNodes - 2}) {
		t.Errorf("a call with %d arguments: %v", impl.MaxNodes-2, l[at])
	}
}

// Texts that ExpandForms does not tell have no code.
func TestWhatIsNotExpandedIsNotCompiled(t *testing.T) {
	for _, text := range []string{"(", ")", "()", "(if)", "1 (if)", "(lambda)", "(lambda (x x) 1)", "else", "if", "(define 1 2)", "(set! if 1)", "(1 . 2)", "(begin)", "(let ((x)) 1)", "'", "#", "\"", "(define-syntax m 1)", strings.Repeat("1 ", 301), strings.Repeat("a", 1501), strings.Repeat("(f ", 26) + strings.Repeat(")", 26), "(define-syntax m (syntax-rules () ((_) 1))) (m 1)", "(quote)", "\xff"} {
		if l, code := impl.CompileForms(text); len(l) != 0 || code != impl.RunForm {
			t.Errorf("%s: %v, %d; wanted none and RunForm", short(text), l, code)
		}
		for _, fuel := range []int{0, 1, impl.MaxFuel} {
			isNoCode(t, text, fuel)
		}
	}
}

// Code of random texts is the model's, comes back from its text, and goes only to places within it.
func TestCodeIsThatOfTheModel(t *testing.T) {
	s := &scribe{dice: &dice{state: 601}, names: []string{"g0", "turns"}, kinds: "nn"}
	for range 3000 {
		text := s.program()
		want, code := modelCode(text)
		if code != impl.RunOk {
			if got, code := impl.CompileForms(text); len(got) != 0 || code != impl.RunForm {
				t.Errorf("%s: %v, %d", text, got, code)
			}
			continue
		}
		isCompiled(t, text, want)
		for at, i := range want {
			if (i.Op == impl.OpJump || i.Op == impl.OpFalse || i.Op == impl.OpLambda) && (i.A <= at || i.A >= len(want)) {
				t.Errorf("%s: %d goes to %d", text, at, i.A)
			}
		}
		if t.Failed() {
			return
		}
	}
}

// The quoted data of all kinds are told as DataText tells them.
func TestQuotedInCode(t *testing.T) {
	many := 0
	for _, forest := range forests() {
		for _, datum := range forest {
			text := textOf([]tree{datum})
			if _, code := impl.ReadData("'" + text); code != impl.ReadOk || many > 3000 {
				continue
			}
			many++
			isCompiled(t, "'"+text, []impl.Instr{{Op: impl.OpConst, Text: text}, {Op: impl.OpEnd}, {Op: impl.OpStop}})
		}
	}
	if many < 1000 {
		t.Error("only", many, "data")
	}
	for _, digits := range []int{1, 599, 600} {
		isCompiled(t, nines(digits), []impl.Instr{{Op: impl.OpConst, Text: nines(digits)}, {Op: impl.OpEnd}, {Op: impl.OpStop}})
	}
	names := ""
	for n := range 290 {
		names += " a" + strconv.Itoa(n)
	}
	l, code := impl.CompileForms("(lambda (" + names[1:] + ") 1)")
	if code != impl.RunOk || l[0] != (impl.Instr{Op: impl.OpLambda, A: 3, Text: "(" + names[1:] + ")"}) {
		t.Errorf("a lambda with many parameters: %v, %d", l, code)
	}
}
