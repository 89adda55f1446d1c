package tests

import (
	"fmt"
	"slices"
	"strings"
	"testing"

	"loop.example/g00201/impl"
)

// syntaxText is a define-syntax of a macro.
func syntaxText(m impl.Macro) string {
	out := "(define-syntax " + m.Name + " (syntax-rules (" + strings.Join(m.Literals, " ") + ")"
	for _, r := range m.Rules {
		out += " (" + r.Pattern + " " + r.Template + ")"
	}
	return out + "))"
}

// macrosTold asks for the macros that ExpandForms answers.
func macrosTold(t *testing.T, s string, given []impl.Macro, want ...impl.Macro) {
	t.Helper()
	_, got, code := impl.ExpandForms(s, given)
	if code != impl.ExpandOk || !sameMacros(got, want) {
		t.Errorf("ExpandForms(%q, %v): %v, %d; wanted %v", short(s), given, got, code, want)
	}
}

var (
	twice = macroOf("twice", "", "(_ x)", "(begin x x)")
	swap  = macroOf("swap", "=>", "(_ x => y)", "(y x)", "(_ x y)", "(swap x => y)")
	never = macroOf("never", "", "(_ x x)", "1")
	// count goes on till it has nothing left: of n parts that are n + 1 simpler forms, and double makes them 2 n + 2.
	count  = macroOf("count", "", "(_)", "1", "(_ x y ...)", "(count y ...)")
	double = macroOf("double", "", "(_ x ...)", "(count x ... x ...)")
)

func TestExpandWithMacros(t *testing.T) {
	given := []impl.Macro{twice, swap, never}
	for _, row := range [][2]string{
		{"(twice 1)", "(begin 1 1)"}, {"(twice (twice 1))", "(begin (begin 1 1) (begin 1 1))"}, {"(swap 1 f)", "(f 1)"}, {"(swap 1 => f)", "(f 1)"}, {"(swap (twice 1) twice)", "(begin (begin 1 1) (begin 1 1))"}, {"(twice (if a b))", "(begin (if a b #f) (if a b #f))"}, {"(let ((x (twice 1))) (twice x))", "((lambda (x) (begin x x)) (begin 1 1))"}, {"((twice 1))", "((begin 1 1))"},
		// What is in a quote stays; so does a macro's name that is no form's first part.
		{"'(twice 1)", "(quote (twice 1))"}, {"(twice '(twice 1))", "(begin (quote (twice 1)) (quote (twice 1)))"}, {"twice", "twice"}, {"(f twice)", "(f twice)"}, {"(define twice 1)", "(define twice 1)"}, {"(set! twice (twice 1))", "(set! twice (begin 1 1))"}, {"'(never)", "(quote (never))"}, {"never", "never"},
		// A name that is bound around is the macro's all the same.
		{"(lambda (twice) (twice 1))", "(lambda (twice) (begin 1 1))"}, {"(lambda twice (twice 1))", "(lambda twice (begin 1 1))"}, {"(let ((twice f)) (twice 1))", "((lambda (twice) (begin 1 1)) f)"}, {"(define (twice x) x) (twice 1)", "(define twice (lambda (x) x)) (begin 1 1)"}, {"(letrec ((twice f)) twice)", "((lambda (twice) (begin (set! twice f) ((lambda () twice)))) #f)"},
		// From without to within: the macro takes its parts as they stand.
		{"(swap (or) (and))", "(#t #f)"}, {"(twice (define (f) 1))", "(begin (define f (lambda () 1)) (define f (lambda () 1)))"},
		// What comes to stand in the first place only when it is made is looked at no more.
		{"((and twice) 1)", "(twice 1)"},
	} {
		expandsWith(t, row[0], given, row[1])
		expandAsModel(t, row[0], given)
	}
	for _, s := range []string{"(twice)", "(twice 1 2)", "(twice . 1)", "(twice 1 . 2)", "(never)", "(never 1 1)", "(f (never 2))", "(lambda (never) (never 1))", "(swap)", "(swap 1 -> 2)", "(swap 1 if)", "(twice (never))", "(swap 1 (never))", "((and if) 1 2)"} {
		expandFails(t, s, given, impl.ExpandForm)
	}
	expandsWith(t, "(never 1 1) (twice 1)", nil, "(never 1 1) (twice 1)")
	// Names in use mean what they mean where they come to stand.
	car := macroOf("car", "", "(_ x)", "(%t x)")
	expandsWith(t, "(or (car 1) (car x))", []impl.Macro{car}, "((lambda (%t) (if %t %t (%t x))) (%t 1))")
	expandsWith(t, "(%t 1)", []impl.Macro{macroOf("%t", "", "(_ x)", "(or x %t)")}, "((lambda (%t) (if %t %t %t)) 1)")
	expandsWith(t, "(m 1 2)", []impl.Macro{macroOf("m", "", "(_ if x)", "(if x if)")}, "(1 2 1)")
	expandsWith(t, "(m quote 2)", []impl.Macro{macroOf("m", "", "(_ k x)", "(k x)")}, "(quote 2)")
	// The first of two macros of one name counts.
	two := []impl.Macro{macroOf("m", "", "(_)", "1"), macroOf("m", "", "(_)", "2")}
	expandsWith(t, "(m)", two, "1")
	macrosTold(t, "(m)", two, two...)
	macrosTold(t, "(define-syntax m (syntax-rules () ((_) 3)))", two, macroOf("m", "", "(_)", "3"), two[1])
}

func TestDefineSyntax(t *testing.T) {
	for _, m := range []impl.Macro{twice, swap, never, count, double, macroOf("k", "a b c d e f g h i j", "()", "()"), macroOf("...", "...", "(_ (a . b) ...)", "(a . b)")} {
		macrosTold(t, syntaxText(m), nil, m)
		macrosTold(t, "1 "+syntaxText(m)+" 2", nil, m)
		expandsTo(t, "1 "+syntaxText(m)+" 2", "1 2")
		expandsTo(t, syntaxText(m), "")
	}
	// Its texts are told as data are.
	macrosTold(t, "(define-syntax m (syntax-rules ( =>  ) ((_  'x\n) '#true) ((m  +1) ;a\n 2/4)))", nil, macroOf("m", "=>", "(_ (quote x))", "(quote #t)", "(m 1)", "1/2"))
	// It counts from then on.
	expandsTo(t, "(m 1) (define-syntax m (syntax-rules () ((_ x) (f x)))) (m 1)", "(m 1) (f 1)")
	expandsTo(t, "(define-syntax m (syntax-rules () ((_ x) (f x)))) (m 1) (define-syntax m (syntax-rules () ((_ x) (g x)))) (m 1)", "(f 1) (g 1)")
	expandsTo(t, "(define-syntax m (syntax-rules () ((_ x) (n x)))) (m 1) (define-syntax n (syntax-rules () ((_ x) (f x)))) (m 1)", "(n 1) (f 1)")
	// It comes in the place of one of its name, otherwise behind all.
	other := macroOf("swap", "", "(_ x)", "(f x)")
	macrosTold(t, syntaxText(other), []impl.Macro{twice, swap, never}, twice, other, never)
	macrosTold(t, syntaxText(other), []impl.Macro{twice, never}, twice, never, other)
	macrosTold(t, syntaxText(swap)+syntaxText(twice)+syntaxText(other), nil, other, twice)
	macrosTold(t, "1", []impl.Macro{twice, swap}, twice, swap)
	macrosTold(t, "", nil)
	// A macro that is given is told as it was given.
	spaced := macroOf("m", "", " (_   x) ;a", "'x ")
	macrosTold(t, "(m 1)", []impl.Macro{spaced}, spaced)
}

func TestDefineSyntaxOfNoMacro(t *testing.T) {
	for _, s := range []string{
		"(define-syntax)", "(define-syntax m)", "(define-syntax m 1)", "(define-syntax m ())", "(define-syntax m (syntax-rules))", "(define-syntax m (syntax-rules ()))", "(define-syntax m (syntax-rules x ((_) 1)))", "(define-syntax m (syntax-rules 1 ((_) 1)))", "(define-syntax m (syntax-rules (a . b) ((_) 1)))",
		"(define-syntax m (syntax-rules () ((_) 1)) 1)", "(define-syntax m (syntax-rules () ((_) 1)) . 1)", "(define-syntax m (syntax-rules () ((_) 1) . 1))", "(define-syntax . m)", "(define-syntax m (lambda () 1))", "(define-syntax m (rules () ((_) 1)))", "(define-syntax m ((syntax-rules) () ((_) 1)))", "(define-syntax m (\"syntax-rules\" () ((_) 1)))", "(\"define-syntax\" m (syntax-rules () ((_) 1)))",
		"(define-syntax if (syntax-rules () ((_) 1)))", "(define-syntax else (syntax-rules () ((_) 1)))", "(define-syntax 1 (syntax-rules () ((_) 1)))", "(define-syntax \"m\" (syntax-rules () ((_) 1)))", "(define-syntax #t (syntax-rules () ((_) 1)))", "(define-syntax (m) (syntax-rules () ((_) 1)))", "(define-syntax () (syntax-rules () ((_) 1)))",
		"(define-syntax m (syntax-rules (1) ((_) 1)))", "(define-syntax m (syntax-rules (\"a\") ((_) 1)))", "(define-syntax m (syntax-rules (#t) ((_) 1)))", "(define-syntax m (syntax-rules ((a)) ((_) 1)))", "(define-syntax m (syntax-rules (()) ((_) 1)))", "(define-syntax m (syntax-rules (a b c d e f g h i j k) ((_) 1)))",
		"(define-syntax m (syntax-rules () _))", "(define-syntax m (syntax-rules () ()))", "(define-syntax m (syntax-rules () ((_))))", "(define-syntax m (syntax-rules () ((_) 1 2)))", "(define-syntax m (syntax-rules () ((_) . 1)))", "(define-syntax m (syntax-rules () ((_) 1 . 2)))", "(define-syntax m (syntax-rules () (_ 1)))", "(define-syntax m (syntax-rules () (1 1)))", "(define-syntax m (syntax-rules () ((_ . x) 1)))", "(define-syntax m (syntax-rules () ((_) 1) (_ 1)))", "(define-syntax m (syntax-rules () (\"(_)\" 1)))",
		"(define-syntax m (syntax-rules ()" + strings.Repeat(" ((_) 1)", 11) + "))",
		// Its macro's template is too long a text, as DataText tells it.
		"(define-syntax m (syntax-rules () ((_) (#x" + strings.Repeat("f", 480) + " #x" + strings.Repeat("f", 480) + " #x" + strings.Repeat("f", 400) + "))))",
	} {
		expandFails(t, s, nil, impl.ExpandForm)
		expandFails(t, s, []impl.Macro{macroOf("m", "", "(_)", "1")}, impl.ExpandForm)
	}
	expandsTo(t, "(define-syntax m (syntax-rules ()"+strings.Repeat(" ((_) 1)", 10)+")) (m)", "1")
	expandsTo(t, "(define-syntax m (syntax-rules (a b c d e f g h i j) ((_ j) 1))) (m j)", "1")
	// A macro that tells a define-syntax tells no core form.
	expandFails(t, "(m)", []impl.Macro{macroOf("m", "", "(_)", "(define-syntax k (syntax-rules () ((_) 1)))")}, impl.ExpandForm)
}

// manyMacros are so many macros of names of their own.
func manyMacros(many int) []impl.Macro {
	var out []impl.Macro
	for at := range many {
		out = append(out, macroOf(fmt.Sprint("m", at), "", "(_)", fmt.Sprint(at)))
	}
	return out
}

func TestMaxMacros(t *testing.T) {
	all := manyMacros(25)
	text := ""
	for _, m := range all {
		text += syntaxText(m)
	}
	macrosTold(t, "(m19)", all[:20], all[:20]...)
	expandsWith(t, "(m19) (m0)", all[:20], "19 0")
	expandFails(t, "", all[:21], impl.ExpandData)
	expandFails(t, "(if)", all[:21], impl.ExpandData)
	for given := range 22 {
		for added := range 22 {
			s := ""
			for _, m := range all[min(given, 3):][:added] {
				s += syntaxText(m)
			}
			together := max(given, min(given, 3)+added)
			want := impl.ExpandOk
			if given > 20 {
				want = impl.ExpandData
			} else if together > 20 {
				want = impl.ExpandMany
			}
			if l, _ := impl.ReadData(s); len(l) == 0 && s != "" || len(s) > 1500 {
				continue
			}
			_, got, code := impl.ExpandForms(s, all[:given])
			if code != want || code == impl.ExpandOk && !sameMacros(got, all[:together]) {
				t.Errorf("%d macros given, %d told: %v, %d; wanted %d", given, added, got, code, want)
			}
		}
	}
	// In the place of one of its name it is none more.
	again := macroOf("m7", "", "(_)", "seven")
	expandsWith(t, syntaxText(again)+"(m7)", all[:20], "seven")
	expandFails(t, syntaxText(all[20]), all[:20], impl.ExpandMany)
	expandsWith(t, syntaxText(all[19])+syntaxText(all[19])+"(m19)", all[:19], "19")
	// As it is met.
	expandFails(t, "(if) "+syntaxText(all[20]), all[:20], impl.ExpandForm)
	expandFails(t, syntaxText(all[20])+" (if)", all[:20], impl.ExpandMany)
}

// ones is a form of a name and so many 1 behind it.
func ones(name string, many int) string { return "(" + name + strings.Repeat(" 1", many) + ")" }

func TestMaxExpand(t *testing.T) {
	given := []impl.Macro{count, double}
	// 2 * 149 + 2 and 2 * 49 + 2 are 400.
	just := ones("double", 149) + ones("double", 49)
	expandsWith(t, just, given, "1 1")
	expandsWith(t, just+" 1 '(and) (f x) (lambda x x) (if a b c)", given, "1 1 1 (quote (and)) (f x) (lambda x x) (if a b c)")
	expandFails(t, just+" (if)", given, impl.ExpandForm)
	for _, more := range []string{"(and)", "(or)", "(and 1)", "(cond)", "(if a b)", "(define (f) 1)", "(lambda () 1 2)", "(let () 1)", "(f (and))", "(count)", "(let* () 1)", "(when a b)", "(define x (or))"} {
		expandFails(t, just+more, given, impl.ExpandMany)
		expandFails(t, more+just, given, impl.ExpandMany)
		expandFails(t, just+more+" (if)", given, impl.ExpandMany)
		expandFails(t, just+" (if) "+more, given, impl.ExpandForm)
		less := ones("double", 149) + ones("double", 48)
		if _, _, code := impl.ExpandForms(less+more, given); code != impl.ExpandOk {
			t.Errorf("ExpandForms with %s behind: %d", more, code)
		}
	}
	// What is told by none is none more.
	for _, wrong := range []string{"(if)", "(let)", "(count . 1)", "(cond 1)", "else", "(let (x) 1)", "(let ())", "(let f ())", "(let* ())", "(let* (x) 1)", "(let* ((x)) 1)", "(letrec ())", "(letrec (x) 1)", "(cond (else))", "(cond ())", "(define (f))", "(define x 1 2)", "(lambda ())", "(if 1)", "(when 1)", "(unless 1)"} {
		expandFails(t, just+wrong, given, impl.ExpandForm)
	}
	// Without macros: each (cond (1)) of these is 4 more, the last one 5.
	conds := func(many int) string { return "(cond" + strings.Repeat(" (1)", many) + ")" }
	three := conds(33) + conds(33) + conds(33)
	expandFails(t, three+"(and 1) (if)", nil, impl.ExpandForm)
	expandFails(t, three+"(and 1 1) (if)", nil, impl.ExpandMany)
	expandFails(t, conds(33)+conds(33)+conds(32)+"(or) (or) (or) (or) (or) (if)", nil, impl.ExpandForm)
	expandFails(t, conds(33)+conds(33)+conds(32)+"(or) (or) (or) (or) (or) (or) (if)", nil, impl.ExpandMany)
	// A macro that gives itself goes on till there are too many.
	expandFails(t, "(m) (if)", []impl.Macro{macroOf("m", "", "(_)", "(m)")}, impl.ExpandMany)
	expandFails(t, "(m 1)", []impl.Macro{macroOf("m", "", "(_ x)", "(and (m x))")}, impl.ExpandMany)
	expandFails(t, "(m 1)", []impl.Macro{macroOf("m", "", "(_ x)", "(k x)"), macroOf("k", "", "(_ x)", "(m x)")}, impl.ExpandMany)
}

// aroundAnd is a form with a part that has so many forms around it: each 1 but the last one makes an if around it.
func aroundAnd(forms int) string { return ones("and", forms+1) }

// aroundLet has a body with so many forms around it, an even number: two for each binding, and two at last.
func aroundLet(forms int, body string) string {
	return "(let* (" + strings.Repeat("(x 1)", forms/2-1) + ") " + body + ")"
}

func TestFormsAroundAPart(t *testing.T) {
	// All of these have too many lists around each other at last, so a fault behind tells whether they were met.
	for forms := range 130 {
		want := impl.ExpandForm
		if forms > 100 {
			want = impl.ExpandMany
		}
		expandFails(t, aroundAnd(forms)+" (if)", nil, want)
		expandFails(t, "(if) "+aroundAnd(forms), nil, impl.ExpandForm)
		if forms < 4 || forms%2 > 0 {
			continue
		}
		expandFails(t, aroundLet(forms, "1")+" (if)", nil, want)
		expandFails(t, aroundLet(forms, "'(((1)))")+" (if)", nil, want)
		expandFails(t, "(begin "+aroundLet(forms-2, "(lambda (x y . z) 1)")+" (if))", nil, want)
		expandFails(t, aroundLet(forms, "else")+" (if)", nil, want)
	}
	expandFails(t, aroundLet(98, "(f)")+" (if)", nil, impl.ExpandForm)
	expandFails(t, aroundLet(100, "(f)")+" (if)", nil, impl.ExpandMany)
	expandFails(t, aroundLet(100, "(quote f)")+" (if)", nil, impl.ExpandForm)
	expandFails(t, aroundLet(100, "(and 1)")+" (if)", nil, impl.ExpandForm)
	expandFails(t, aroundLet(100, "(and 1 1)")+" (if)", nil, impl.ExpandMany)
	expandFails(t, aroundLet(100, "(if 1)"), nil, impl.ExpandForm)
	expandFails(t, aroundLet(100, "()"), nil, impl.ExpandForm)
	expandFails(t, aroundLet(100, "(f ())"), nil, impl.ExpandMany)
	expandFails(t, "(f "+aroundLet(100, "1")+")", nil, impl.ExpandMany)
	expandFails(t, "(quote "+aroundLet(102, "1")+") (if)", nil, impl.ExpandForm)
	// A macro that goes deeper and deeper ends there.
	expandFails(t, "(m) (if)", []impl.Macro{macroOf("m", "", "(_)", "(f (m))")}, impl.ExpandMany)
}

func TestExpandOutcome(t *testing.T) {
	// Lists around each other: each binding of let* makes two, the last let two, and its names one.
	expandsTo(t, aroundLet(24, "1"), strings.Repeat("((lambda (x) ", 11)+"((lambda () 1))"+strings.Repeat(") 1)", 11))
	expandFails(t, aroundLet(26, "1"), nil, impl.ExpandMany)
	expandsTo(t, ones("and", 26), strings.Repeat("(if 1 ", 25)+"1"+strings.Repeat(" #f)", 25))
	expandFails(t, ones("and", 27), nil, impl.ExpandMany)
	// Nodes: an and of two makes 5 of 4.
	expandsTo(t, strings.Repeat("(and a b)", 60), strings.TrimSpace(strings.Repeat("(if a b #f) ", 60)))
	expandFails(t, strings.Repeat("(and a b)", 60)+"1", nil, impl.ExpandMany)
	expandsTo(t, strings.Repeat("a ", 300), strings.TrimSpace(strings.Repeat("a ", 300)))
	// Bytes: (if N N N) has 8 and the numbers.
	same := macroOf("m", "", "(_ x y)", "(if x x y)")
	expandsWith(t, "(m "+nines(500)+" "+nines(493)+")", []impl.Macro{same}, "(if "+nines(500)+" "+nines(500)+" "+nines(493)+")")
	if text := "(if " + nines(500) + " " + nines(500) + " " + nines(493) + ")"; len(text) != 1500 {
		t.Fatal(len(text))
	}
	expandFails(t, "(m "+nines(500)+" "+nines(494)+")", []impl.Macro{same}, impl.ExpandMany)
	expandFails(t, "(m "+nines(500)+" "+nines(494)+") (if)", []impl.Macro{same}, impl.ExpandForm)
	// What is between may be longer than a text.
	drop := macroOf("drop", "", "(_ x ...)", "1")
	expandsWith(t, "(k "+nines(600)+")", []impl.Macro{drop, macroOf("k", "", "(_ x)", "(drop x x x x)")}, "1")
	// But what a macro makes has its limits of nodes and of lists: otherwise it does not apply.
	more := macroOf("k", "", "(_ x ...)", "(drop x ... x ...)")
	expandsWith(t, ones("k", 149), []impl.Macro{drop, more}, "1")
	expandFails(t, ones("k", 150), []impl.Macro{drop, more}, impl.ExpandForm)
	deeper := macroOf("k", "", "(_ x)", "(drop ((x)))")
	lists := func(many int) string { return strings.Repeat("(", many) + strings.Repeat(")", many) }
	expandsWith(t, "(k "+lists(22)+")", []impl.Macro{drop, deeper}, "1")
	expandFails(t, "(k "+lists(23)+")", []impl.Macro{drop, deeper}, impl.ExpandForm)
	expandFails(t, "(k (1))", []impl.Macro{drop, macroOf("k", "", "(_ x)", "(drop '(a . x))")}, impl.ExpandForm)
	// Twice as much each time ends too.
	expandFails(t, "(k 1)", []impl.Macro{macroOf("k", "", "(_ x)", "(k (x x))")}, impl.ExpandForm)
	expandFails(t, "(k 1)", []impl.Macro{macroOf("k", "", "(_ x)", "(begin (k x) (k x))")}, impl.ExpandMany)
}

// What is met first counts; what data there are is looked for ahead of all.
func TestExpandCodesInOrder(t *testing.T) {
	bad := []impl.Macro{macroOf("if", "", "(_)", "1")}
	many := ones("and", 102)
	for _, s := range []string{"(", ")", "(if))", "(if) (", "\"", "'", ". ", "(if) .", many + ")", strings.Repeat("a ", 301), "(if) " + strings.Repeat("a ", 300), strings.Repeat("(", 26) + strings.Repeat(")", 26), strings.Repeat(" ", 1501), "\xff"} {
		expandFails(t, s, nil, impl.ExpandData)
		expandFails(t, s, bad, impl.ExpandData)
		expandFails(t, s, manyMacros(21), impl.ExpandData)
	}
	for _, s := range []string{"", "1", "(if)", many, "(and)"} {
		expandFails(t, s, bad, impl.ExpandData)
		expandFails(t, s, append(manyMacros(19), bad[0]), impl.ExpandData)
		expandFails(t, s, append([]impl.Macro{bad[0]}, manyMacros(19)...), impl.ExpandData)
		expandFails(t, s, manyMacros(21), impl.ExpandData)
		expandFails(t, s, make([]impl.Macro, 1), impl.ExpandData)
		expandFails(t, s, slices.Repeat(manyMacros(1), 21), impl.ExpandData)
	}
	expandFails(t, many+" (if)", nil, impl.ExpandMany)
	expandFails(t, "(if) "+many, nil, impl.ExpandForm)
	expandFails(t, "(f "+many+" (if))", nil, impl.ExpandMany)
	expandFails(t, "(f (if) "+many+")", nil, impl.ExpandForm)
	expandFails(t, "(if "+many+")", nil, impl.ExpandForm)
	expandFails(t, "(lambda (x x) "+many+")", nil, impl.ExpandForm)
	expandFails(t, "(let ((x "+many+")) (if))", nil, impl.ExpandForm)
	expandFails(t, "(let ((x (if))) "+many+")", nil, impl.ExpandMany)
	expandFails(t, "(define (f) "+many+" (if))", nil, impl.ExpandMany)
}

// Forms with macros among them, by dice.
func TestExpandWithMacrosAsModel(t *testing.T) {
	d := &dice{state: 73}
	found := map[int]int{}
	all := []impl.Macro{
		macroOf("m", "", "(_ x)", "(and x 'x)", "(_ x y ...)", "(let ((x 1)) y ...)"), macroOf("f", "x", "(_ x)", "(begin x)", "(_ y ...)", "(g y ... y ...)"), macroOf("g", "", "(_ (x ...))", "(x ...)", "(_ x)", "(cond (x x) (else x))"), macroOf("h", "", "(h)", "1", "(h x y ...)", "(or x (h y ...))"), macroOf("x", "", "(_ y)", "(x)"),
	}
	for n := range 8000 {
		given := all[d.below(5):]
		given = given[:d.below(len(given)+1)]
		var texts []string
		for range 1 + d.below(4) {
			if d.below(4) == 0 {
				texts = append(texts, syntaxText(all[d.below(5)]))
				continue
			}
			texts = append(texts, textOf([]tree{d.formTree(d.below(7), []int{0, 60}[n%2])}))
		}
		text := strings.Join(texts, "\n")
		if len(text) > impl.MaxText {
			continue
		}
		found[expandAsModel(t, text, given)]++
		if got, _, _ := impl.ExpandForms(text, given); !impl.IsCore(got) {
			t.Errorf("%q is expanded to %q, no core forms", text, got)
		} else {
			expandsTo(t, got, got)
		}
	}
	if found[impl.ExpandOk] < 1500 || found[impl.ExpandForm] < 1500 || found[impl.ExpandMany] < 30 {
		t.Error("the forms are of too few kinds:", found)
	}
}
