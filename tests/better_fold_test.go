package tests

import (
	"slices"
	"strings"
	"testing"

	"loop.example/g00201/impl"
)

// Texts of core forms, and what does the same.
var foldedForms = [][2]string{
	{"", ""}, {" ; nothing\n", ""}, {"1", "1"}, {"x", "x"}, {"#f", "#f"}, {`"a\n"`, `"a\n"`}, {"'a", "(quote a)"}, {"1 'a x (f)", "1 (quote a) x (f)"}, {"#xFF", "255"}, {"#true", "#t"}, {"  ( f   1 )  ", "(f 1)"}, {"(f)(g)", "(f) (g)"},
	// What an if begins with.
	{"(if #f x y)", "y"}, {"(if #false x y)", "y"}, {"(if #t x y)", "x"}, {"(if 0 x y)", "x"}, {"(if 1 x y)", "x"}, {"(if -1/2 x y)", "x"}, {`(if "" x y)`, "x"}, {`(if "f" x y)`, "x"}, {`(if "#f" x y)`, "x"}, {"(if 'a x y)", "x"}, {"(if 'f x y)", "x"}, {"(if '() x y)", "x"}, {"(if '(#f) x y)", "x"}, {"(if '(1 . 2) x y)", "x"}, {"(if '#t x y)", "x"}, {"(if '0 x y)", "x"}, {`(if '"f" x y)`, "x"}, {"(if (lambda () #f) x y)", "x"}, {"(if (lambda x x) x y)", "x"}, {"(if (lambda (a . b) (f)) x y)", "x"},
	// A #f that is quoted gives no other value.
	{"(if '#f x y)", "y"}, {"(if (quote #false) x y)", "y"}, {"(if ''#f x y)", "x"}, {"(if '(quote #f) x y)", "x"}, {"(if (begin '#f) x y)", "y"}, {"(if (begin 1 '#f) x y)", "y"},
	{"(if x y z)", "(if x y z)"}, {"(if f 1 2)", "(if f 1 2)"}, {"(if t #f #f)", "(if t #f #f)"}, {"(if car 1 2)", "(if car 1 2)"}, {"(if (f) 1 2)", "(if (f) 1 2)"}, {"(if (define x 1) 2 3)", "(if (define x 1) 2 3)"}, {"(if (set! x #f) 2 3)", "(if (set! x #f) 2 3)"}, {"(if (not #f) 2 3)", "(if (not #f) 2 3)"}, {"(if ((lambda () #f)) x y)", "(if ((lambda () #f)) x y)"}, {"(if (begin (f) #f) x y)", "(if (begin (f) #f) x y)"}, {"(if (begin x 1) x y)", "(if (begin x 1) x y)"}, {"(if x 1 1)", "(if x 1 1)"}, {"(if (if x #f #f) 1 2)", "(if (if x #f #f) 1 2)"}, {"(if ('a) 1 2)", "(if ((quote a)) 1 2)"},
	{"(if #f 1 2)", "2"}, {"(if #t 1 2)", "1"}, {"(if #f #f #t)", "#t"}, {"(if #t '(if #f 1 2) y)", "(quote (if #f 1 2))"},
	// An if in each part of one.
	{"(if (if #f a b) c d)", "(if b c d)"}, {"(if (if #t #f b) c d)", "d"}, {"(if (if #f b #f) c d)", "d"}, {"(if (if 1 2 b) c d)", "c"}, {"(if (if a #t #f) c d)", "(if (if a #t #f) c d)"}, {"(if a (if #f b c) d)", "(if a c d)"}, {"(if a (if #t b c) d)", "(if a b d)"}, {"(if a b (if #f c d))", "(if a b d)"}, {"(if a b (if 'x c d))", "(if a b c)"}, {"(if #t (if #f a b) c)", "b"}, {"(if #f a (if #t b c))", "b"}, {"(if #f (if a b c) (if a b c))", "(if a b c)"}, {"(if (if (if #f 1 #f) 2 '3) x y)", "x"}, {"(if a (if b (if #f c d) e) f)", "(if a (if b d e) f)"},
	// Within a lambda, a set!, a define, a call, but not within a quote.
	{"(lambda (x) (if #f x y))", "(lambda (x) y)"}, {"(lambda x (begin 1 2))", "(lambda x 2)"}, {"(lambda (a b . c) (begin a 1 (begin b c)))", "(lambda (a b . c) (begin a b c))"}, {"(lambda () (lambda () (if 1 2 3)))", "(lambda () (lambda () 2))"}, {"(set! x (if #f 1 2))", "(set! x 2)"}, {"(set! x (begin 1 y))", "(set! x y)"}, {"(define x (if #t 1 2))", "(define x 1)"}, {"(define x (begin 'a (begin y z)))", "(define x (begin y z))"}, {"(define f (lambda (n) (if #t (begin 1 n) 2)))", "(define f (lambda (n) n))"}, {"(f (if #f 1 2) (begin 1 2 3))", "(f 2 3)"}, {"((if #t car cdr) x)", "(car x)"}, {"((begin 1 f) (begin 2))", "(f 2)"}, {"((begin (f) g) 1)", "((begin (f) g) 1)"}, {"((lambda (x) (begin 1 x)) (if '() 2 3))", "((lambda (x) x) 2)"}, {"(1 (begin 2))", "(1 2)"}, {"((if #f 1 2))", "(2)"}, {"((begin f))", "(f)"}, {"(f (g (h (if #f 1 2))))", "(f (g (h 2)))"}, {"(begin (begin f))", "f"},
	{"'(if #f 1 2)", "(quote (if #f 1 2))"}, {"'(begin 1 2)", "(quote (begin 1 2))"}, {"'(begin (begin 1) (if #t a b))", "(quote (begin (begin 1) (if #t a b)))"}, {"'(if)", "(quote (if))"}, {"'(begin)", "(quote (begin))"}, {"(quote (quote (begin 1 2)))", "(quote (quote (begin 1 2)))"}, {"'(lambda (x) (begin 1 x))", "(quote (lambda (x) (begin 1 x)))"}, {"(f '(if #f 1 2) (if #f 1 2))", "(f (quote (if #f 1 2)) 2)"}, {"'((begin . 1) (if . #f))", "(quote ((begin . 1) (if . #f)))"}, {"(begin '(begin 1 2))", "(quote (begin 1 2))"}, {"(begin x '(begin 1 2))", "(begin x (quote (begin 1 2)))"},
	// Begins within begins.
	{"(begin 1)", "1"}, {"(begin x)", "x"}, {"(begin (f))", "(f)"}, {"(begin #f)", "#f"}, {"(begin (begin 1))", "1"}, {"(begin (begin (begin x)))", "x"}, {"(begin a b)", "(begin a b)"}, {"(begin (begin a b))", "(begin a b)"}, {"(begin (begin a b) c)", "(begin a b c)"}, {"(begin a (begin b c))", "(begin a b c)"}, {"(begin a (begin b c) d)", "(begin a b c d)"}, {"(begin (begin a b) (begin c d))", "(begin a b c d)"}, {"(begin (begin (begin a b) c) d)", "(begin a b c d)"}, {"(begin a (begin b (begin c d)))", "(begin a b c d)"}, {"(begin (begin a (begin b c) d) (begin (begin e) f))", "(begin a b c d e f)"}, {"(begin (begin (begin (begin a b) c) d) e)", "(begin a b c d e)"},
	// Begins that come to stand in one only then.
	{"(begin (if #t (begin a b) c) d)", "(begin a b d)"}, {"(begin a (if #f b (begin c d)))", "(begin a c d)"}, {"(begin (if #f x (begin a 1)) b)", "(begin a b)"}, {"(begin a (if 1 (begin 2 b) c))", "(begin a b)"}, {"(if #t (begin a b) c)", "(begin a b)"}, {"(if #t (begin 1 b) c)", "b"}, {"(begin (begin 1 (if #t (begin a (begin b 2)) c)) d)", "(begin a b d)"}, {"(begin a (if x (begin b c) d))", "(begin a (if x (begin b c) d))"}, {"(begin (f (begin a b)) c)", "(begin (f (begin a b)) c)"}, {"(begin (lambda () (begin a b)) c)", "c"}, {"(begin (define x (begin a b)) c)", "(begin (define x (begin a b)) c)"},
	// Dead parts in front, in the middle and last.
	{"(begin 1 a)", "a"}, {"(begin a 1)", "(begin a 1)"}, {"(begin a 1 b)", "(begin a b)"}, {"(begin 1 a 2 b 3)", "(begin a b 3)"}, {"(begin 1 2 3)", "3"}, {"(begin #t #f)", "#f"}, {"(begin 1 2 (f))", "(f)"}, {"(begin (f) 1 2)", "(begin (f) 2)"}, {"(begin 'a (f) 'b (g) 'c)", "(begin (f) (g) (quote c))"}, {"(begin (lambda () (f)) a)", "a"}, {"(begin a (lambda () (f)))", "(begin a (lambda () (f)))"}, {`(begin "s" #t -1/2 '() (lambda x x) a)`, "a"}, {"(begin a a a)", "(begin a a a)"}, {"(begin a (begin 1))", "(begin a 1)"}, {"(begin (begin a 1) 2)", "(begin a 2)"}, {"(begin (begin a 1))", "(begin a 1)"}, {"(begin (begin a 1) (begin 2 b))", "(begin a b)"}, {"(begin (begin 1 2) (begin 3 4))", "4"}, {"(begin a (begin b 1))", "(begin a b 1)"}, {"(begin (begin (begin a 1) 2) 3)", "(begin a 3)"}, {"(begin '#f '#f)", "(quote #f)"}, {"(begin (if #f a 1) b)", "b"}, {"(begin b (if #f a 1))", "(begin b 1)"}, {"(begin (if a 1 2) b)", "(begin (if a 1 2) b)"}, {"(begin ('a) b)", "(begin ((quote a)) b)"}, {"(begin (1) b)", "(begin (1) b)"}, {"(begin (begin 1 x) (begin 2 y) 3)", "(begin x y 3)"},
	{"(begin (define x 1) x)", "(begin (define x 1) x)"}, {"(begin (set! x 1) 2)", "(begin (set! x 1) 2)"}, {"(begin x (define y 1))", "(begin x (define y 1))"}, {"(begin 1 (define y 1))", "(define y 1)"}, {"(begin ((lambda () 1)) 2)", "(begin ((lambda () 1)) 2)"},
	// One form changes no other one.
	{"(begin 1 2) (if #f 3 4) x", "2 4 x"}, {"1 2 (begin a 1) 3", "1 2 (begin a 1) 3"}, {"(begin a) (begin b)", "a b"}, {"#f (if x 1 2)", "#f (if x 1 2)"},
	// Names that only look like it.
	{"(begin! 1 2)", "(begin! 1 2)"}, {"(If #f 1 2)", "(If #f 1 2)"}, {"(begin (begin! 1 2) 3)", "(begin (begin! 1 2) 3)"}, {"(begin (Quote a) 3)", "(begin (Quote a) 3)"}, {"(begin (f if!) (list (lambda () 1)))", "(begin (f if!) (list (lambda () 1)))"}, {`("if" #f 1 2)`, `("if" #f 1 2)`}, {`(begin ("begin" 1) 2)`, `(begin ("begin" 1) 2)`}, {"(('begin 1) 2)", "(((quote begin) 1) 2)"},
}

func TestFoldedForms(t *testing.T) {
	for _, row := range foldedForms {
		foldsTo(t, row[0], row[1])
		foldDoesTheSame(t, row[0])
		if l, _ := coreTrees(row[0]); len(l) != 1 {
			continue
		}
		for _, around := range [][2]string{{"(f ", ")"}, {"(lambda (x) ", ")"}, {"(define x ", ")"}, {"(set! x ", ")"}, {"(if a b ", ")"}, {"(if a ", " b)"}} {
			foldsTo(t, around[0]+row[0]+around[1], around[0]+row[1]+around[1])
		}
	}
	for _, text := range coreForms {
		if got, ok := foldsAsModel(t, &dice{state: 7}, text); !ok || !impl.IsCore(got) {
			t.Errorf("FoldForms(%q): %q, %v", text, got, ok)
		}
	}
}

// Texts of no core forms, also such that simpler ones tell.
func TestFoldOfNoCoreForms(t *testing.T) {
	for _, text := range slices.Concat(noForms, keywords, []string{"(", ")", "\"", "'", "#", "\xff", "(if a b)", "(define (f) 1)", "(lambda () 1 2)", "(let () 1)", "(let f () 1)", "(let* () 1)", "(letrec () 1)", "(cond)", "(and)", "(or 1)", "(when 1 2)", "(unless 1 2)", "(define-syntax m (syntax-rules () ((_) 1)))", strings.Repeat("1 ", 301), strings.Repeat(" ", 1501)}) {
		foldsNot(t, text)
		foldsNot(t, "1 "+text)
		foldsNot(t, "(if #f "+text+" 1)")
		foldsNot(t, "(if #t 1 "+text+")")
		foldsNot(t, "(begin (lambda () "+text+") 1)")
	}
}

// quoted are so many quotes, as ' writes them: told each has ten bytes more than its symbol, the blank behind it counted.
func quoted(many int, symbol string) string {
	return strings.TrimSuffix(strings.Repeat("'"+symbol+" ", many), " ")
}

// An outcome of just MaxText bytes is told, and one of a byte more is not, however long the text itself would be.
func TestFoldUpToMaxText(t *testing.T) {
	just := quoted(99, "abcdef") + " 'abcdefg"
	for _, row := range []struct {
		text string
		long int
	}{
		{just, 1500}, {quoted(100, "abcdef"), 1499}, {quoted(98, "abcdef") + " 'abcdefg 'abcdefg", 1501}, {just + "x", 1501}, {"(f) " + quoted(98, "abcdef") + " 'abcdef", 1488}, {quoted(100, "abcdefghij"), 1899},
		{"(f " + quoted(97, "abcdef") + " 'abcdefghi)", 1476}, {"(f " + quoted(97, "abcdefg") + ")", 1555}, {"(begin " + quoted(98, "abcdefghij") + " 1)", 1}, {"(begin " + quoted(98, "abcdefghij") + " \"s\")", 3}, {"(if #t 1 (f " + quoted(96, "abcdefghij") + "))", 1}, {"(if #f (f " + quoted(96, "abcdefghij") + ") (f))", 3}, {"(if x 1 (f " + quoted(96, "abcdefghij") + "))", 1840},
		{"(begin (f) (begin 1 (f " + quoted(92, "abcdefg") + ")) (f))", 1491}, {"(begin (f) (begin 1 (f " + quoted(91, "abcdefg") + " 'abcdefghijklmnop)) (f))", 1500}, {"(begin (f) (begin 1 (f " + quoted(91, "abcdefg") + " 'abcdefghijklmnopq)) (f))", 1501},
		{"\"" + strings.Repeat("\n", 100) + "\"", 202}, {strings.TrimSpace(strings.Repeat("\""+strings.Repeat("\n", 100)+"\" ", 7)), 1420}, {strings.TrimSpace(strings.Repeat("\""+strings.Repeat("\n", 100)+"\"", 8)), 1623},
	} {
		forest, ok := coreTrees(row.text)
		if !ok || len(row.text) > impl.MaxText {
			t.Errorf("%s are no core forms", short(row.text))
		}
		got, ok := foldsAsModel(t, &dice{state: 9}, row.text)
		if ok != (row.long <= impl.MaxText) || ok && len(got) != row.long {
			t.Errorf("%s of %d bytes: %d, %v; wanted %d", short(row.text), len(textOf(forest)), len(got), ok, row.long)
		}
	}
}

// As many nodes, and lists around each other, as there may be.
func TestFoldOfLargeForms(t *testing.T) {
	foldsTo(t, "(begin"+strings.Repeat(" 1", 298)+")", "1")
	foldsTo(t, "(begin"+strings.Repeat(" x", 298)+")", "(begin"+strings.Repeat(" x", 298)+")")
	foldsTo(t, strings.TrimSpace(strings.Repeat("x ", 300)), strings.TrimSpace(strings.Repeat("x ", 300)))
	foldsTo(t, strings.Repeat("(begin ", 25)+"x"+strings.Repeat(")", 25), "x")
	foldsTo(t, strings.Repeat("(begin a ", 25)+"x"+strings.Repeat(")", 25), "(begin "+strings.Repeat("a ", 25)+"x)")
	foldsTo(t, strings.Repeat("(begin ", 25)+"x"+strings.Repeat(" a)", 25), "(begin x"+strings.Repeat(" a", 25)+")")
	foldsTo(t, strings.Repeat("(if #t ", 25)+"x"+strings.Repeat(" y)", 25), "x")
	foldsTo(t, strings.Repeat("(if ", 25)+"#f"+strings.Repeat(" #t #f)", 25), "#f")
	foldsTo(t, strings.Repeat("(if ", 25)+"#f"+strings.Repeat(" x #f)", 25), "#f")
	foldsTo(t, strings.Repeat("(if ", 25)+"f"+strings.Repeat(" x #f)", 25), strings.Repeat("(if ", 25)+"f"+strings.Repeat(" x #f)", 25))
	foldsTo(t, strings.Repeat("(f ", 24)+"(begin 1 x)"+strings.Repeat(")", 24), strings.Repeat("(f ", 24)+"x"+strings.Repeat(")", 24))
	foldsNot(t, strings.Repeat("(begin ", 26)+"x"+strings.Repeat(")", 26))
	foldsNot(t, "(begin"+strings.Repeat(" 1", 299)+")")
}

// sameTold asks for the same of two texts, where neither runs out.
func sameTold(t *testing.T, a string, b string) bool {
	t.Helper()
	for _, run := range []func(s string, fuel int) (string, int){impl.RunForms, impl.RunByCode, impl.ValueOf} {
		told, code := run(a, impl.MaxFuel)
		other, otherCode := run(b, impl.MaxFuel)
		if code == impl.RunOut || otherCode == impl.RunOut {
			return false
		}
		if told != other || code != otherCode {
			t.Errorf("%s: %q, %d; %s: %q, %d", a, told, code, b, other, otherCode)
		}
	}
	return true
}

// foldDoesTheSame asks of what is folded that it is core forms, stays as it is, does the same, and has no more
// instructions.
func foldDoesTheSame(t *testing.T, text string) bool {
	t.Helper()
	folded, ok := impl.FoldForms(text)
	if !ok || !impl.IsCore(folded) {
		t.Errorf("FoldForms(%q): %q, %v", text, folded, ok)
		return false
	}
	again, ok := impl.FoldForms(folded)
	told(t, "FoldForms of "+folded, again, ok, folded)
	many, ok := impl.CountCode(text)
	if fewer, fewerOk := impl.CountCode(folded); ok && (!fewerOk || fewer > many) {
		t.Errorf("%s has %d instructions, %s has %d", text, many, folded, fewer)
	}
	return sameTold(t, text, folded)
}

func TestFoldedFormsDoTheSame(t *testing.T) {
	t.Parallel()
	same := 0
	for _, rows := range [][][2]string{toldForms, toldNames, toldCalls, toldJumps, codeJumps} {
		for _, row := range rows {
			if text, _, code := impl.ExpandForms(row[0], nil); code == impl.ExpandOk && foldDoesTheSame(t, text) {
				same++
			}
		}
	}
	for _, text := range append(expandedPrograms(1451, 1000), drawnCore(1453, 3000)...) {
		if foldDoesTheSame(t, text) {
			same++
		}
	}
	if same < 3500 {
		t.Errorf("only %d texts run, folded and as they are", same)
	}
}

func TestFoldIsThatOfTheModel(t *testing.T) {
	t.Parallel()
	d := &dice{state: 1459}
	shorter := 0
	for _, text := range drawnCore(1471, 10000) {
		if got, ok := foldsAsModel(t, d, text); ok && len(got) < len(text)/2 {
			shorter++
		}
		if t.Failed() {
			return
		}
	}
	if shorter < 1000 {
		t.Errorf("only %d texts come to less than half", shorter)
	}
}

// longer gives a form that does the same as f, by what FoldForms should take away.
func (d *dice) longer(f tree) tree {
	name := func(s string) tree { return symTree(s) }
	one := func(texts ...string) tree {
		forest, _ := coreTrees(texts[d.below(len(texts))])
		return forest[0]
	}
	dead := func() tree {
		return one("1", `"s"`, "#t", "'a", "'(1 . 2)", "'#t", "(lambda () (display 9))", "'(begin)")
	}
	no, never := one("#f", "'#f"), one("(display 'never)", "(car 1)", "nowhere")
	switch d.below(7) {
	case 0:
		return listTree(name("begin"), f)
	case 1:
		return listTree(name("begin"), dead(), no, f)
	case 2:
		return listTree(name("begin"), listTree(name("begin"), dead(), dead()), listTree(name("begin"), f))
	case 3:
		return listTree(name("if"), dead(), f, never)
	case 4:
		return listTree(name("if"), no, never, f)
	case 5:
		return listTree(name("if"), listTree(name("begin"), dead(), no), never, f)
	}
	return listTree(name("begin"), listTree(name("if"), no, never, dead()), f)
}

// What is folded is the same, whatever was put around forms that FoldForms takes away; and it does the same.
func TestFoldTakesAllAway(t *testing.T) {
	t.Parallel()
	d := &dice{state: 1481}
	many, same := 0, 0
	for _, text := range append(expandedPrograms(1483, 600), drawnCore(1487, 2000)...) {
		want, ok := impl.FoldForms(text)
		if !ok {
			t.Errorf("FoldForms(%q) is false", text)
		}
		forest, _ := coreTrees(text)
		for at := range forest {
			for range 1 + d.below(4) {
				all := spots(&forest[at])
				one := all[d.below(len(all))]
				*one = d.longer(*one)
			}
		}
		longer := textOf(forest)
		if !impl.IsCore(longer) {
			continue
		}
		many++
		got, ok := impl.FoldForms(longer)
		told(t, "FoldForms of "+longer, got, ok, want)
		if foldDoesTheSame(t, longer) && sameTold(t, text, longer) {
			same++
		}
		if t.Failed() {
			return
		}
	}
	if many < 2000 || same < 1500 {
		t.Errorf("only %d texts were made longer, and %d run", many, same)
	}
}
