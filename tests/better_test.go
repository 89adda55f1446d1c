package tests

import (
	"slices"
	"strings"
	"testing"

	"loop.example/g00201/impl"
)

// Texts and how many instructions CompileForms tells of them.
var countedTexts = []struct {
	text string
	many int
}{
	{"", 1}, {" ; nothing\n", 1}, {"1", 3}, {"x", 3}, {"'(1 2 3)", 3}, {"1 2 3", 7}, {"(f)", 4}, {"(f 1 2)", 6}, {"(if a b c)", 7}, {"(if a b)", 7}, {"(define x 1)", 4}, {"(set! x 1)", 4}, {"(begin 1 2 3)", 7}, {"(begin 1)", 3}, {"(lambda () 1)", 5}, {"(lambda () (f))", 5}, {"(lambda () (if a b c))", 9}, {"(lambda (x) (lambda (y) x))", 7}, {"(let ((x 1)) x)", 7}, {"(define (f x) x)", 6}, {"(cond)", 3}, {"(and a b)", 7}, {"(define-syntax m (syntax-rules () ((_) (f 1)))) (m)", 5}, {"(define-syntax m (syntax-rules () ((_) 1)))", 1},
	{strings.Repeat("1 ", impl.MaxNodes), 601}, {"(lambda x (begin " + strings.Repeat("1 ", impl.MaxNodes-5) + "))", 593}, {"(f " + strings.Repeat("x ", impl.MaxNodes-2) + ")", 302}, {strings.Repeat("(x)", impl.MaxNodes/2), 451}, {strings.Repeat("(lambda x 1)", 75), 301},
}

func TestCountCode(t *testing.T) {
	for _, row := range countedTexts {
		if got, ok := impl.CountCode(row.text); got != row.many || !ok {
			t.Errorf("CountCode(%q): %d, %v; wanted %d", short(row.text), got, ok, row.many)
		}
		countAsModel(t, row.text)
	}
	for _, row := range compiledForms {
		if got, ok := impl.CountCode(row[0]); got != len(written(row[1])) || !ok {
			t.Errorf("CountCode(%q): %d, %v; wanted %d", row[0], got, ok, len(written(row[1])))
		}
	}
	for _, text := range append(drawnCore(1489, 2000), expandedPrograms(1493, 500)...) {
		countAsModel(t, text)
	}
}

// What CompileForms does not tell has no count.
func TestCountOfNoCode(t *testing.T) {
	for _, text := range slices.Concat(noForms, keywords, []string{"(", ")", "1 (", "(if)", "1 2 3 (if)", "\xff", "(define-syntax m 1)", strings.Repeat("1 ", impl.MaxNodes+1), strings.Repeat(" ", impl.MaxText+1), strings.Repeat("(f ", 26) + strings.Repeat(")", 26), quoted(100, "abcdefghij"), "(define-syntax m (syntax-rules () ((_) (m)))) (m)"}) {
		if got, ok := impl.CountCode(text); got != 0 || ok {
			t.Errorf("CountCode(%q): %d, %v; wanted the zero answer", short(text), got, ok)
		}
	}
}

// hasCalls asks for so many calls, and for so many that are last.
func hasCalls(t *testing.T, l []impl.Instr, calls int, tails int) {
	t.Helper()
	if gotCalls, gotTails, ok := impl.CallsIn(l); gotCalls != calls || gotTails != tails || !ok {
		t.Errorf("CallsIn of %d instructions: %d, %d, %v; wanted %d, %d", len(l), gotCalls, gotTails, ok, calls, tails)
	}
	callsAsModel(t, l)
}

// hasNoCalls asks for the zero answer.
func hasNoCalls(t *testing.T, l []impl.Instr) {
	t.Helper()
	if calls, tails, ok := impl.CallsIn(l); calls != 0 || tails != 0 || ok {
		t.Errorf("CallsIn of %d instructions: %d, %d, %v; wanted the zero answer", len(l), calls, tails, ok)
	}
}

func TestCallsIn(t *testing.T) {
	hasCalls(t, nil, 0, 0)
	hasCalls(t, []impl.Instr{}, 0, 0)
	for _, row := range []struct {
		text  string
		calls int
		tails int
	}{
		{"", 0, 0}, {"1 x '(f (g))", 0, 0}, {"(f)", 1, 0}, {"(f 1 2)", 1, 0}, {"(f) (g) (h)", 3, 0}, {"(f (g (h)))", 3, 0}, {"(lambda () (f))", 0, 1}, {"(lambda () (f (g)))", 1, 1}, {"(lambda () (begin (f) (g) (h)))", 2, 1}, {"(lambda () (if (a) (b) (c)))", 1, 2}, {"(if (a) (b) (c))", 3, 0}, {"(begin (f) (g))", 2, 0}, {"(lambda () (lambda () (f)))", 0, 1}, {"((lambda () (f)))", 1, 1}, {"((lambda () ((lambda () (f)))))", 1, 2}, {"(lambda () (define x (f)))", 1, 0}, {"(lambda () (set! x (f)))", 1, 0}, {"(define (f n) (if (= n 0) 0 (f (- n 1)))) (f 10)", 3, 1}, {"(let ((x (f))) (g x))", 2, 1},
	} {
		l, _ := impl.CompileForms(row.text)
		hasCalls(t, l, row.calls, row.tails)
	}
	// Whatever else stands there, also what no form comes to, and what is never come to.
	hasCalls(t, written("call 0"), 1, 0)
	hasCalls(t, written("tail 0"), 0, 1)
	hasCalls(t, written("tail 3|stop|call 1|call 2|jump 100000|tail 100000"), 2, 2)
	hasCalls(t, written("const|name|set|define|drop|jump|false|lambda|return|end|stop"), 0, 0)
	hasCalls(t, slices.Repeat(written("call 2"), impl.MaxCode), impl.MaxCode, 0)
	hasCalls(t, slices.Repeat(written("tail 2"), impl.MaxCode), 0, impl.MaxCode)
	hasCalls(t, slices.Repeat(written("tail 2|call 1 some text"), impl.MaxCode/2), impl.MaxCode/2, impl.MaxCode/2)
	hasNoCalls(t, slices.Repeat(written("call 2"), impl.MaxCode+1))
	for _, text := range append(drawnCore(1499, 1000), expandedPrograms(1511, 500)...) {
		l, _ := impl.CompileForms(text)
		callsAsModel(t, l)
	}
}

// Texts of core forms, and the names that are free in them.
var freeInTexts = [][2]string{
	{"", ""}, {" ; x\n", ""}, {"1", ""}, {"\"x\"", ""}, {"#t", ""}, {"x", "x"}, {"x x x", "x"}, {"b a", "a b"}, {"(f x)", "f x"}, {"(f (g x) y f)", "f g x y"}, {"(car x)", "car x"}, {"+", "+"}, {"(if a b c)", "a b c"}, {"(begin c b a)", "a b c"}, {"(1 x)", "x"}, {"(x)", "x"}, {"((x))", "x"},
	// Quotes.
	{"'x", ""}, {"'(x y)", ""}, {"(f 'x)", "f"}, {"'(lambda (x) y)", ""}, {"'(set! x y)", ""}, {"''x", ""}, {"'(x . y)", ""}, {"(x 'x)", "x"}, {"(quote (quote x))", ""},
	// set! and define.
	{"(set! x 1)", "x"}, {"(set! x y)", "x y"}, {"(set! x x)", "x"}, {"(set! x (set! y z))", "x y z"}, {"(set! x 'y)", "x"}, {"(set! b a)", "a b"}, {"(define x 1)", ""}, {"(define x y)", "y"}, {"(define x x)", "x"}, {"(define x 1) x", "x"}, {"(define x (set! y 1))", "y"}, {"(set! x (define y z))", "x z"}, {"(begin (define x 1) x)", "x"}, {"(define f (lambda (n) (f n)))", "f"}, {"(define x 1) (set! x 2)", "x"}, {"(lambda () (define x 1))", ""}, {"(lambda () (begin (define x 1) (f x)))", "f x"}, {"(lambda (x) (define x y))", "y"}, {"(lambda (y) (define x y))", ""}, {"(define x (lambda (x) x))", ""}, {"(f (define x 1) x)", "f x"},
	{"(lambda (x) (set! x 1))", ""}, {"(lambda (x) (set! y x))", "y"}, {"(lambda (x) (set! y y))", "y"}, {"(lambda (y) (set! y z))", "z"}, {"(begin (set! x 1) (lambda (x) (set! x 2)))", "x"}, {"(lambda x (set! x 1))", ""}, {"(lambda (a . x) (set! x 1))", ""}, {"(lambda (x) (lambda (y) (begin (set! x y) (set! z y))))", "z"},
	// All shapes of parameters.
	{"(lambda () x)", "x"}, {"(lambda (x) x)", ""}, {"(lambda (x) y)", "y"}, {"(lambda (x y) (f x y z))", "f z"}, {"(lambda (x y z) (x y z))", ""}, {"(lambda (x . y) (f x y z))", "f z"}, {"(lambda (a b . c) (a b c d))", "d"}, {"(lambda (a b . c) c)", ""}, {"(lambda x x)", ""}, {"(lambda x y)", "y"}, {"(lambda x (f x y))", "f y"}, {"(lambda car (car cdr))", "cdr"}, {"(lambda (x) 1)", ""}, {"(lambda (x) 'x)", ""}, {"(lambda (x) 'y)", ""},
	// Free in one place and bound in another, and bound twice.
	{"(lambda (x) x) x", "x"}, {"x (lambda (x) x)", "x"}, {"(f (lambda (x) x) x)", "f x"}, {"((lambda (x) x) x)", "x"}, {"((lambda (x) (f x)) (lambda (f) (f x)))", "f x"}, {"(if (lambda (x) x) (lambda (y) x) (lambda (x) y))", "x y"}, {"(lambda (x) (lambda (y) (x y)))", ""}, {"(lambda (x) (lambda (x) x))", ""}, {"(lambda (x) (f (lambda (x) x) x))", "f"}, {"(lambda (x) (f (lambda (y) y) y))", "f y"}, {"(lambda (x) ((lambda (x) x) x y))", "y"}, {"((lambda (x) ((lambda (x) x) x)) x)", "x"}, {"(lambda x (lambda (x) x))", ""}, {"(lambda (x) (lambda x (lambda (y . x) (x y z))))", "z"}, {"(begin (lambda (x) (lambda (y) x)) y)", "y"}, {"(lambda (x) (begin (lambda (y) y) y))", "y"}, {"(lambda (x y) (lambda (x) (x y)))", ""}, {"(lambda (a) (lambda (b) (lambda (c) (a b c d))))", "d"}, {"(lambda (a) a) (lambda (b) b) (lambda (c) a)", "a"},
	// Rising by bytes, each once.
	{"b B a A", "A B a b"}, {"ab a abc b", "a ab abc b"}, {"(z y x w v u)", "u v w x y z"}, {"x10 x9 x1", "x1 x10 x9"}, {"! ~ - + a. a_ a A0 <= < = a-", "! + - < <= = A0 a a- a. a_ ~"}, {"a a (a a) (lambda (b) a)", "a"}, {"... => _ %t", "%t ... => _"}, {"(lambda (%t) (if %t %t x))", "x"}, {"- 1+ -a", "- -a 1+"},
	// Names that only look like forms.
	{"(Lambda (x) y)", "Lambda x y"}, {"(set x y)", "set x y"}, {"(lambda (set) (set x 1))", "x"}, {"(f quote!)", "f quote!"}, {"('lambda x x)", "x"},
}

func TestFreeNames(t *testing.T) {
	for _, row := range freeInTexts {
		isFreeIn(t, row[0], row[1])
	}
	for _, text := range append(slices.Clone(coreForms), drawnCore(1523, 10000)...) {
		freeAsModel(t, text)
	}
	for _, text := range expandedPrograms(1531, 1000) {
		freeAsModel(t, text)
	}
}

// A lambda takes its parameters from the free names of its body, a set! and a symbol add one, and forms that stand beside
// each other have all of each other's.
func TestFreeNamesOfParts(t *testing.T) {
	d := &dice{state: 1543}
	taken := 0
	for _, text := range drawnCore(1549, 4000) {
		forest, _ := coreTrees(text)
		one := textOf(forest[:1])
		names, _ := freeAsModel(t, one)
		parameters := d.parameters()
		left := slices.DeleteFunc(slices.Clone(names), func(name string) bool {
			return slices.Contains(strings.Fields(strings.Trim(parameters, "()")), name)
		})
		taken += len(names) - len(left)
		name := coreWords[d.below(len(coreWords))]
		for _, row := range []struct {
			text string
			want []string
		}{
			{"(lambda " + parameters + " " + one + ")", left}, {"(define " + name + " " + one + ")", names}, {"(set! " + name + " " + one + ")", risen(name, names)}, {"(" + name + " " + one + ")", risen(name, names)}, {"(begin " + one + " " + name + ")", risen(name, names)}, {one + " " + one, names}, {"(if 1 " + one + " '" + name + ")", names}, {"'" + one, nil},
		} {
			if got, ok := impl.FreeNames(row.text); impl.IsCore(row.text) && (!slices.Equal(got, row.want) || !ok) {
				t.Errorf("FreeNames(%q): %v, %v; wanted %v", row.text, got, ok, row.want)
			}
		}
		folded, _ := impl.FoldForms(one)
		fewer, ok := impl.FreeNames(folded)
		if more := slices.DeleteFunc(slices.Clone(fewer), func(name string) bool { return slices.Contains(names, name) }); !ok || len(more) > 0 {
			t.Errorf("%s has %v, %s has %v", one, names, folded, fewer)
		}
		if t.Failed() {
			return
		}
	}
	if taken < 1000 {
		t.Errorf("lambdas take only %d names", taken)
	}
}

// risen are names with one more, rising.
func risen(name string, names []string) []string {
	out := append(slices.Clone(names), name)
	slices.Sort(out)
	return slices.Compact(out)
}

// As many names as a text can have.
func TestManyFreeNames(t *testing.T) {
	var names []string
	for n := range 299 {
		names = append(names, "x"+string(rune('a'+n/26))+string(rune('a'+n%26)))
	}
	back := slices.Clone(names)
	slices.Reverse(back)
	isFreeIn(t, "("+strings.Join(back, " ")+")", strings.Join(names, " "))
	isFreeIn(t, strings.Join(back, " "), strings.Join(names, " "))
	isFreeIn(t, "(lambda ("+strings.Join(back[:296], " ")+") xaa)", "xaa")
	isFreeIn(t, "(lambda ("+strings.Join(names[:293], " ")+") (f xaa xlg))", "f")
	isFreeIn(t, "(lambda ("+strings.Join(names[:293], " ")+") (f xaa xlh))", "f xlh")
	isFreeIn(t, strings.Repeat("(lambda (x) ", 24)+"(x y)"+strings.Repeat(")", 24), "y")
	isFreeIn(t, strings.Repeat("(f ", 25)+"x"+strings.Repeat(")", 25), "f x")
	isFreeIn(t, strings.Repeat("a", 30)+" "+strings.Repeat("a", 29), strings.Repeat("a", 29)+" "+strings.Repeat("a", 30))
}

// namesNot asks for the zero answer.
func namesNot(t *testing.T, text string) {
	t.Helper()
	if got, ok := impl.FreeNames(text); len(got) != 0 || ok {
		t.Errorf("FreeNames(%q): %v, %v; wanted the zero answer", short(text), got, ok)
	}
}

func TestFreeNamesOfNoCoreForms(t *testing.T) {
	for _, text := range slices.Concat(noForms, keywords, []string{"(", ")", "\"", "'", "#", "\xff", "(if a b)", "(define (f) x)", "(lambda () x y)", "(let () x)", "(let f () x)", "(cond)", "(and)", "(or x)", "(when x y)", "(define-syntax m (syntax-rules () ((_) x)))", strings.Repeat("x ", 301), strings.Repeat(" ", 1501), strings.Repeat("(f ", 26) + strings.Repeat(")", 26)}) {
		namesNot(t, text)
		namesNot(t, "x "+text)
		namesNot(t, "(lambda (x) (f "+text+"))")
	}
}
