package tests

import (
	"slices"
	"strings"
	"testing"

	"loop.example/g00201/impl"
)

func toolNames() []string {
	var names []string
	for _, tool := range tools {
		names = append(names, tool.name)
	}
	return names
}

// Primitives are these names alone, and a symbol that is none has no value.
func TestIsPrimitive(t *testing.T) {
	names := toolNames()
	if len(names) != 34 {
		t.Errorf("%d primitives", len(names))
	}
	near := []string{"", " ", "()", "if", "quote", "define", "set!", "lambda", "begin", "else", "1", "-1", "==", "=<", "=>", "<>", "!=", "**", "//", "modulo", "abs", "max", "min", "ceiling", "round", "cadr", "cddr", "caar", "set-car!", "call-with-current-continuation", "callcc", "call/cc2", "eqv?", "zero?", "list?", "char?", "vector?", "eval", "map", "null", "equal", "print", "\x00", "\xff", "+\n", "car\x00", "(car)", "'car", "CAR", "Car"}
	for _, name := range names {
		near = append(near, name[1:], name[:len(name)-1], name+"?", name+" ", " "+name, name+name, "_"+name, name+"!", strings.ToUpper(name)+"x", strings.Trim(name, "?"), name+"\x00")
		if !impl.IsPrimitive(name) {
			t.Errorf("%q is no primitive", name)
		}
		gives(t, name, "#<procedure>")
	}
	for _, word := range near {
		if impl.IsPrimitive(word) != slices.Contains(names, word) {
			t.Errorf("IsPrimitive(%q) is wrong", word)
		}
		if impl.GoodSymbol(word) && !impl.IsKeyword(word) && !slices.Contains(names, word) {
			gives(t, word, "error unbound")
			gives(t, "("+word+")", "error unbound")
		}
	}
	for _, word := range keywords {
		if impl.IsPrimitive(word) {
			t.Errorf("%q is a primitive", word)
		}
	}
}

// kinds are values of every kind, by forms.
var kindForms = []string{"0", "7", "-1/2", "'a", `"s"`, "#t", "#f", "'()", "'(1 -2)", "'(1 . 2)", "car", "(lambda x x)", "(define z 1)"}

// batches runs forms as the model does, as many in one text as it surely holds.
func batches(t *testing.T, forms []string) {
	t.Helper()
	for some := range slices.Chunk(forms, 16) {
		text := strings.Join(some, " ")
		if runAsModel(t, text, impl.MaxFuel).code != impl.RunOk {
			t.Fatalf("%s does not run", text)
		}
	}
}

// Every primitive with none, one and two values of every kind, and with some third one.
func TestPrimitivesOfAllKinds(t *testing.T) {
	for _, tool := range tools {
		forms := []string{"(" + tool.name + ")"}
		for i, a := range kindForms {
			forms = append(forms, "("+tool.name+" "+a+")")
			for j, b := range kindForms {
				forms = append(forms, "("+tool.name+" "+a+" "+b+")")
				for _, c := range []int{0, 1, i, j, i + j, i + 2*j} {
					forms = append(forms, "("+tool.name+" "+a+" "+b+" "+kindForms[c%len(kindForms)]+")")
				}
			}
		}
		batches(t, forms)
	}
}

// Calls of primitives, with what is told of each.
var toldPrimitives = [][2]string{
	{"(+)", "0"}, {"(*)", "1"}, {"(-)", "error arity"}, {"(/)", "error arity"}, {"(+ 5)", "5"}, {"(* 5)", "5"}, {"(- 5)", "-5"}, {"(- 0)", "0"}, {"(- -1/2)", "1/2"}, {"(/ 5)", "1/5"}, {"(/ -2/3)", "-3/2"}, {"(/ 1)", "1"},
	{"(+ 1 2 3 4)", "10"}, {"(- 10 1 2 3)", "4"}, {"(* 1 2 3 4)", "24"}, {"(/ 24 2 3)", "4"}, {"(/ 1 2 3)", "1/6"}, {"(+ 1/2 1/3 1/6)", "1"}, {"(* 2/3 3/2)", "1"}, {"(- 1/2 1/2)", "0"}, {"(/ 0 5)", "0"}, {"(- 1 2 3)", "-4"},
	{"(= 1)", "#t"}, {"(< 1)", "#t"}, {"(> 1)", "#t"}, {"(<= 1)", "#t"}, {"(>= 1)", "#t"}, {"(=)", "error arity"}, {"(<)", "error arity"}, {"(= 'a)", "error type"}, {"(< 'a)", "error type"},
	{"(= 1 1 1)", "#t"}, {"(= 1 1 2)", "#f"}, {"(= 1 2 1)", "#f"}, {"(= 1/2 2/4)", "#t"}, {"(< 1 2 3)", "#t"}, {"(< 1 2 2)", "#f"}, {"(< 1 3 2)", "#f"}, {"(< 2 1 3)", "#f"}, {"(> 3 2 1)", "#t"}, {"(> 3 2 2)", "#f"}, {"(> 1 2)", "#f"}, {"(<= 1 1 2)", "#t"}, {"(<= 1 2 1)", "#f"}, {"(<= 2 1)", "#f"}, {"(>= 2 1 1)", "#t"}, {"(>= 2 1 2)", "#f"}, {"(>= 1 2)", "#f"}, {"(< -1 -1/2 0 1/3 1/2)", "#t"},
	{"(< 2 1 'a)", "error type"}, {"(= 1 2 #t)", "error type"}, {"(+ 1 \"2\")", "error type"}, {"(+ '())", "error type"}, {"(* 0 'a)", "error type"},
	{"(quotient 7 2)", "3"}, {"(quotient -7 2)", "-3"}, {"(quotient 7 -2)", "-3"}, {"(quotient -7 -2)", "3"}, {"(quotient 0 5)", "0"}, {"(remainder 7 2)", "1"}, {"(remainder -7 2)", "-1"}, {"(remainder 7 -2)", "1"}, {"(remainder -7 -2)", "-1"}, {"(remainder -6 3)", "0"},
	{"(quotient 7 0)", "error divide"}, {"(remainder 7 0)", "error divide"}, {"(quotient 0 0)", "error divide"}, {"(quotient 7/2 2)", "error type"}, {"(quotient 7 1/2)", "error type"}, {"(remainder 7/2 2)", "error type"}, {"(quotient 1/2 0)", "error type"}, {"(remainder 1/2 0)", "error type"}, {"(quotient 'a 0)", "error type"}, {"(quotient 1)", "error arity"}, {"(quotient 1 0 0)", "error arity"}, {"(remainder 'a)", "error arity"},
	{"(floor 7/2)", "3"}, {"(floor -7/2)", "-4"}, {"(floor 3)", "3"}, {"(floor -3)", "-3"}, {"(floor 0)", "0"}, {"(floor 1/2)", "0"}, {"(floor -1/2)", "-1"}, {"(floor 'a)", "error type"}, {"(floor)", "error arity"}, {"(floor 1 2)", "error arity"},
	{"(/ 0)", "error divide"}, {"(/ 1 0)", "error divide"}, {"(/ 0 0)", "error divide"}, {"(/ 1 2 0)", "error divide"}, {"(/ 1 0 2)", "error divide"}, {"(/ 1 0 'a)", "error type"}, {"(/ 'a 0)", "error type"}, {"(/ 0 1)", "0"},
	{"(cons 1 2)", "(1 . 2)"}, {"(cons 1)", "error arity"}, {"(cons 1 2 3)", "error arity"}, {"(car '(1 2))", "1"}, {"(cdr '(1 2))", "(2)"}, {"(cdr '(1))", "()"}, {"(cdr '(1 . 2))", "2"}, {"(car '())", "error type"}, {"(cdr '())", "error type"}, {"(car 1)", "error type"}, {"(car)", "error arity"}, {"(car 1 2)", "error arity"}, {"(cdr '(1) 2)", "error arity"},
	{"(list)", "()"}, {"(list 1)", "(1)"}, {"(list 1 '(2) 3)", "(1 (2) 3)"},
	{"(null? '())", "#t"}, {"(null? '(1))", "#f"}, {"(null? #f)", "#f"}, {"(null? (cdr '(1)))", "#t"}, {"(pair? '(1))", "#t"}, {"(pair? '())", "#f"}, {"(pair? (cons 1 2))", "#t"}, {"(number? 1/2)", "#t"}, {"(number? \"1\")", "#f"}, {"(symbol? 'a)", "#t"}, {"(symbol? \"a\")", "#f"}, {"(string? \"a\")", "#t"}, {"(string? 'a)", "#f"}, {"(boolean? #f)", "#t"}, {"(boolean? 'f)", "#f"}, {"(procedure? car)", "#t"}, {"(procedure? (lambda () 1))", "#t"}, {"(procedure? 'car)", "#f"}, {"(call/cc (lambda (k) (procedure? k)))", "#t"}, {"(null? (define x 1))", "#f"}, {"(symbol? (define x 1))", "#f"},
	{"(not #f)", "#t"}, {"(not #t)", "#f"}, {"(not 0)", "#f"}, {"(not '())", "#f"}, {"(not)", "error arity"}, {"(not 1 2)", "error arity"},
	{"(length '())", "0"}, {"(length '(1 2 3))", "3"}, {"(length '((1 2) 3))", "2"}, {"(length '(1 . 2))", "error type"}, {"(length 1)", "error type"}, {"(length)", "error arity"}, {"(length '() '())", "error arity"},
	{"(append '(1 2) '(3))", "(1 2 3)"}, {"(append '() '())", "()"}, {"(append '() 1)", "1"}, {"(append '(1) 2)", "(1 . 2)"}, {"(append '(1) '(2 . 3))", "(1 2 . 3)"}, {"(append '(1 . 2) '(3))", "error type"}, {"(append 1 '())", "error type"}, {"(append '(1))", "error arity"}, {"(append '(1) '(2) '(3))", "error arity"}, {"(append)", "error arity"},
	{"(reverse '(1 2 3))", "(3 2 1)"}, {"(reverse '())", "()"}, {"(reverse '((1 2) 3))", "(3 (1 2))"}, {"(reverse '(1 . 2))", "error type"}, {"(reverse 1)", "error type"}, {"(reverse)", "error arity"}, {"(reverse '(1) '(2))", "error arity"},
	{"(display)", "error arity"}, {"(display 1 2)", "error arity"}, {"(write)", "error arity"}, {"(write 1 2)", "error arity"}, {"(newline 1)", "error arity"},
	{"(apply + '(1 2))", "3"}, {"(apply + '())", "0"}, {"(apply list '(1 2))", "(1 2)"}, {"(apply car '((1 2)))", "1"}, {"(apply car '(1 2))", "error arity"}, {"(apply car '(1))", "error type"}, {"(apply 1 '(2))", "error type"}, {"(apply + 1)", "error type"}, {"(apply + '(1 . 2))", "error type"}, {"(apply +)", "error arity"}, {"(apply + 1 '(2))", "error arity"}, {"(apply)", "error arity"}, {"(apply apply (list + '(1 2)))", "3"}, {"(apply apply '(1))", "error arity"}, {"(apply apply (list apply (list apply (list list '(1 2)))))", "(1 2)"}, {"(apply call/cc (list (lambda (k) (k 3))))", "3"}, {"(call/cc (lambda (k) (apply k '(4))))", "4"}, {"(call/cc (lambda (k) (apply k '())))", "error arity"},
}

func TestPrimitives(t *testing.T) {
	for _, row := range toldPrimitives {
		gives(t, row[0], row[1])
		tells(t, row[0], row[1]+"\n")
		runAsModel(t, row[0], impl.MaxFuel)
	}
}

// sameForms are pairs of forms, whether they are eq?, and whether they are equal?.
var sameForms = []struct {
	a, b  string
	same  string
	alike string
}{
	{"1", "1", "#t", "#t"}, {"1", "2", "#f", "#f"}, {"1/2", "2/4", "#t", "#t"}, {nines(50), "(- " + one(50) + " 1)", "#t", "#t"}, {"1", "-1", "#f", "#f"}, {"1", `"1"`, "#f", "#f"},
	{"'a", "'a", "#t", "#t"}, {"'a", "'b", "#f", "#f"}, {"'a", `"a"`, "#f", "#f"}, {"'a", "'A", "#f", "#f"}, {`"a"`, `"a"`, "#t", "#t"}, {`""`, `""`, "#t", "#t"}, {`"a"`, `"b"`, "#f", "#f"}, {"#t", "#t", "#t", "#t"}, {"#t", "#f", "#f", "#f"}, {"#f", "'()", "#f", "#f"}, {"#t", "'t", "#f", "#f"}, {"#f", "'f", "#f", "#f"},
	{"'()", "'()", "#t", "#t"}, {"'()", "(list)", "#t", "#t"}, {"(cdr '(1))", "(cdr '(2))", "#t", "#t"}, {"(define x 1)", "(define y 1)", "#t", "#t"}, {"(define x 1)", "'()", "#f", "#f"}, {"(newline)", "#f", "#f", "#f"},
	{"p", "p", "#t", "#t"}, {"p", "q", "#f", "#t"}, {"(cdr p)", "(cdr p)", "#t", "#t"}, {"(cdr p)", "(cdr q)", "#f", "#t"}, {"p", "r", "#f", "#f"}, {"(list p)", "(list p)", "#f", "#t"}, {"(list p q)", "(list q p)", "#f", "#t"}, {"(list p r)", "(list q p)", "#f", "#f"}, {"(cons 1 2)", "(cons 1 2)", "#f", "#t"}, {"(cons 1 2)", "(cons 1 3)", "#f", "#f"}, {"(cons 1 2)", "(cons 2 2)", "#f", "#f"}, {"'(1 2)", "'(1 2 3)", "#f", "#f"}, {"'(1 2 3)", "'(1 2)", "#f", "#f"}, {"'(1)", "1", "#f", "#f"}, {"'()", "'(())", "#f", "#f"}, {"'(1 (2 (3 \"a\")))", "'(1 (2 (3 \"a\")))", "#f", "#t"}, {"'(1 (2 (3 \"a\")))", "'(1 (2 (3 a)))", "#f", "#f"},
	{"(append '() p)", "p", "#t", "#t"}, {"(cdr (append '(1) p))", "p", "#t", "#t"}, {"(reverse (reverse p))", "p", "#f", "#t"}, {"(apply (lambda x x) p)", "p", "#f", "#t"}, {"(car (list p))", "p", "#t", "#t"},
	{"car", "car", "#t", "#t"}, {"car", "cdr", "#f", "#f"}, {"car", "'car", "#f", "#f"}, {"(lambda (x) x)", "(lambda (x) x)", "#f", "#f"}, {"f", "f", "#t", "#t"}, {"f", "g", "#f", "#f"}, {"(f 1)", "(f 1)", "#f", "#f"}, {"k", "k", "#t", "#t"}, {"(list f car k)", "(list f car k)", "#f", "#t"}, {"(call/cc (lambda (k) k))", "(call/cc (lambda (k) k))", "#f", "#f"}, {"k", "f", "#f", "#f"},
}

func TestEqAndEqual(t *testing.T) {
	ahead := "(define p '(1 2)) (define q '(1 2)) (define r '(1 3)) (define f (lambda (x) (lambda () x))) (define g (lambda (x) (lambda () x))) (define k (call/cc (lambda (c) c))) "
	for _, row := range sameForms {
		for _, text := range []string{row.a + " " + row.b, row.b + " " + row.a} {
			gives(t, ahead+"(eq? "+text+")", row.same)
			gives(t, ahead+"(equal? "+text+")", row.alike)
		}
	}
	for _, name := range []string{"eq?", "equal?"} {
		gives(t, "("+name+")", "error arity")
		gives(t, "("+name+" 1)", "error arity")
		gives(t, "("+name+" 1 1 1)", "error arity")
	}
}

// Outcomes at the limit of MaxDigits, and one beyond.
func TestNumbersAtTheLimit(t *testing.T) {
	most, under := nines(600), "1/"+nines(600)
	for _, row := range [][2]string{
		{"(+ " + most + " 0)", most}, {"(+ " + most + " 1)", "error number"}, {"(- -" + most + " 1)", "error number"}, {"(- " + most + ")", "-" + most}, {"(- " + most + " 1 -1)", most},
		{"(* " + one(300) + " " + one(299) + ")", one(599)}, {"(* " + one(300) + " " + one(300) + ")", "error number"}, {"(* " + one(599) + " -10)", "error number"},
		{"(/ " + most + ")", under}, {"(/ " + under + ")", most}, {"(/ " + under + " 2)", "error number"}, {"(/ " + one(599) + " 1/10)", "error number"}, {"(* " + under + " 1/7)", "error number"}, {"(+ " + under + " 1/17)", "error number"}, {"(/ 3 " + most + ")", "1/" + strings.Repeat("3", 600)},
		{"(quotient " + most + " -1)", "-" + most}, {"(remainder " + most + " 10)", "9"}, {"(floor " + most + "/2)", "4" + nines(599)}, {"(= " + most + " " + most + ")", "#t"}, {"(< " + under + " " + "1/" + one(599) + ")", "#t"},
		// Of several faults the first one in the order of the document counts.
		{"(/ " + one(599) + " 1/10 0)", "error divide"}, {"(/ " + one(599) + " 1/10 'a)", "error type"}, {"(* " + one(599) + " 10 'a)", "error type"}, {"(+ " + most + " 1 #f)", "error type"}, {"(/ 0 'a)", "error type"},
		// What is added and multiplied comes together from the front, each outcome on the way being a number.
		{"(+ " + most + " 1 -1)", "error number"}, {"(+ " + most + " -1 1)", most}, {"(* 10 " + one(599) + " 0)", "error number"}, {"(* 0 10 " + one(599) + ")", "0"},
	} {
		gives(t, row[0], row[1])
		runAsModel(t, row[0], impl.MaxFuel)
	}
}

// call/cc: its procedure called within its form, behind it, more than once, never, and with another many.
var toldJumps = [][2]string{
	{"(call/cc (lambda (k) 5))", "5\n"}, {"(call/cc (lambda (k) (k 7)))", "7\n"}, {"(call/cc (lambda (k) (+ 1 (k 7))))", "7\n"}, {"(+ 1 (call/cc (lambda (k) (begin (k 2) (display 9)))))", "3\n"}, {"(list 1 (call/cc (lambda (k) (list 2 (k 3)))) 4)", "(1 3 4)\n"}, {"(if (call/cc (lambda (k) (k #f))) 1 2)", "2\n"}, {"(begin (call/cc (lambda (k) (k 1))) 2)", "2\n"},
	{"(call/cc (lambda (k) (k)))", "error arity\n"}, {"(call/cc (lambda (k) (k 1 2)))", "error arity\n"}, {"(call/cc (lambda () 1))", "error arity\n"}, {"(call/cc (lambda (k j) 1))", "error arity\n"}, {"(call/cc (lambda k (length k)))", "1\n"}, {"(call/cc)", "error arity\n"}, {"(call/cc car car)", "error arity\n"}, {"(call/cc 1)", "error type\n"}, {"(call/cc 'car)", "error type\n"}, {"(call/cc car)", "error type\n"}, {"(call/cc procedure?)", "#t\n"}, {"(call/cc list)", "(#<procedure>)\n"}, {"(call/cc call/cc)", "#<procedure>\n"}, {"(call/cc (call/cc (lambda (k) k)))", "#<procedure>\n"}, {"((call/cc call/cc) (lambda (x) 5))", "5\n"}, {"(call/cc apply)", "error arity\n"},
	// Behind its form it goes on from there, and the forms of the text go on as they stand.
	{"(define k 0) (+ 100 (call/cc (lambda (c) (begin (set! k c) 1)))) (k 2) (+ 5 (k 3)) (display 'end)", "101\n102\n103\nend"},
	{"(define k 0) (define x (call/cc (lambda (c) (begin (set! k c) 1)))) x (k 5) x (list (k 6)) x", "1\n5\n6\n"},
	{"(define k 0) (call/cc (lambda (c) (set! k c))) (list 1 (k 9) 2) (k k)", "9\n#<procedure>\n"},
	{"(define k 0) (car (call/cc (lambda (c) (begin (set! k c) '(1))))) (k '(2)) (k 3) (k '(4)) (k)", "1\n2\nerror type\n4\nerror arity\n"},
	{"(define k 0) (begin (call/cc (lambda (c) (set! k c))) (display 1) (car 1)) (k 2) 3", "1error type\n1error type\n3\n"},
	// More than once, each time with the parts that were there then.
	{"(define k 0) (define n 0) (begin (display (call/cc (lambda (c) (begin (set! k c) 0)))) (set! n (+ n 1)) (if (< n 3) (k n) 'end))", "012end\n"},
	{"(define k 0) (define n 0) (let ((l (list 1 (call/cc (lambda (c) (begin (set! k c) 2))) 3))) (begin (display l) (set! n (+ n 1)) (if (< n 3) (k (* n 10)) l)))", "(1 2 3)(1 10 3)(1 20 3)(1 20 3)\n"},
	{"(define k 0) (define n 0) (define (f) (define x 0) (call/cc (lambda (c) (set! k c))) (set! x (+ x 1)) x) (f) (k 0) (k 0)", "1\n2\n3\n"},
	{"(define (f l) (call/cc (lambda (out) (begin (letrec ((g (lambda (m) (if (null? m) 0 (begin (if (< (car m) 0) (out (car m))) (g (cdr m))))))) (g l)) 'none)))) (f '(1 2 -3 4 -5)) (f '(1 2))", "-3\nnone\n"},
	{"(define r '()) (define k 0) (define (note x) (set! r (cons x r))) (begin (note (call/cc (lambda (c) (begin (set! k c) 'a)))) (if (< (length r) 4) (k (length r)) r))", "(3 2 1 a)\n"},
}

func TestCallCC(t *testing.T) {
	for _, row := range toldJumps {
		tells(t, row[0], row[1])
		runAsModel(t, row[0], impl.MaxFuel)
	}
}

// The parts of a call that are there stay as they are for one who goes on from there later, however many they are.
func TestCallCCKeepsParts(t *testing.T) {
	for many := range 20 {
		ahead := strings.Repeat(" 1", many)
		tells(t, "(define k 0) (define m 0) (define l (list"+ahead+" (call/cc (lambda (c) (begin (set! k c) 'a))) (call/cc (lambda (c) (begin (if (eq? m 0) (set! m c)) 'b))))) l (k 'x) l (m 'y) l",
			strings.ReplaceAll("(~a b)\n(~x b)\n(~a y)\n", "~", strings.TrimPrefix(ahead+" ", " ")))
	}
}

// A list may hold more values than any call in a text.
func TestCallsOfManyValues(t *testing.T) {
	for _, row := range [][2]string{
		{"(length (apply list l))", "3000"}, {"(apply + l)", "3000"}, {"(apply * l)", "1"}, {"(apply - l)", "-2998"}, {"(apply / l)", "1"}, {"(apply = l)", "#t"}, {"(apply < l)", "#f"}, {"(apply <= l)", "#t"}, {"(apply (lambda x (length x)) l)", "3000"}, {"(apply (lambda (a b . x) (length x)) l)", "2998"}, {"(apply car l)", "error arity"}, {"(apply (lambda (x) x) l)", "error arity"}, {"(length (reverse l))", "3000"}, {"(length (append l l))", "6000"}, {"(apply = (append l '(2)))", "#f"}, {"(apply + (append l '(a)))", "error type"},
	} {
		gives(t, grown(3000)+row[0], row[1])
	}
	gives(t, "(length (list"+strings.Repeat(" 1", 290)+"))", "290")
	gives(t, "((lambda x (length x))"+strings.Repeat(" 1", 290)+")", "290")
}

// Numbers that are short, that just are or are not, and that become long or short again on the way.
func TestSumsOfShortNumbers(t *testing.T) {
	d := &dice{state: 127}
	edges := []string{"0", "1", "-1", "2", "3", "-7", "10", "1/2", "-1/2", "1/3", "-5/6", "99999999", "-99999999", "100000000", "-100000000", "999999999", "-999999999", "1000000000", "-1000000000", "1/999999999", "-1/999999999", "1/1000000000", "999999999/1000000000", "-999999998/999999999", "999999937/999999929", "123456789/987654322", nines(18), "-" + one(18), "1/" + nines(19)}
	for range 1500 {
		var forms []string
		for range 8 {
			form := "(" + []string{"+", "-", "*", "/", "=", "<", ">", "<=", ">="}[d.below(9)]
			for range 1 + d.below(5) {
				form += " " + edges[d.below(len(edges))]
			}
			if d.below(4) == 0 {
				form = strings.Replace(form, " ", " (+ 1 1) ", 1)
			}
			forms = append(forms, form+")")
		}
		batches(t, forms)
	}
	for _, a := range edges {
		for _, b := range edges {
			forms := []string{"(- " + a + ")", "(/ " + a + ")", "(+ " + a + " " + b + " (- " + b + "))", "(* " + a + " " + b + " 3)"}
			for _, name := range []string{"+", "-", "*", "/", "=", "<", ">", "<=", ">="} {
				forms = append(forms, "("+name+" "+a+" "+b+")")
			}
			batches(t, forms)
		}
	}
}
