package tests

import (
	"fmt"
	"slices"
	"strings"
	"testing"

	"loop.example/g00201/impl"
)

// goodMacro holds GoodMacro, and that a macro that is not good makes nothing and is no argument of ExpandForms.
func goodMacro(t *testing.T, m impl.Macro, want bool) {
	t.Helper()
	if impl.GoodMacro(m) != want {
		t.Errorf("GoodMacro(%s) is %v", short(fmt.Sprint(m)), !want)
	}
	_, _, code := impl.ExpandForms("1", []impl.Macro{m})
	if (code == impl.ExpandOk) != want || !want && code != impl.ExpandData {
		t.Errorf("ExpandForms with the macro %s: %d", short(fmt.Sprint(m)), code)
	}
	if !want {
		appliesNot(t, m, "(m 1)")
		appliesNot(t, m, "(m)")
	}
}

func TestGoodMacroNames(t *testing.T) {
	for _, name := range []string{"m", "car", "...", "_", "%t", "let-syntax", "1+", "=>", "a.b", strings.Repeat("a", 30)} {
		goodMacro(t, macroOf(name, "", "(_ x)", "x"), true)
	}
	for _, name := range append([]string{"", ".", "1", "1/2", "+1", "#t", "a b", "(m)", "\"m\"", "'m", "m;", "m ", " m", "\xff", strings.Repeat("a", 31), strings.Repeat("a", 1<<16)}, keywords...) {
		goodMacro(t, macroOf(name, "", "(_ x)", "x"), false)
	}
}

func TestGoodMacroLiterals(t *testing.T) {
	ten := "a b c d e f g h i j"
	for _, literals := range []string{"", "=>", "else", "if quote", "_", "...", "a a", "a a a a a a a a a a", ten} {
		goodMacro(t, macroOf("m", literals, "(_ x)", "x"), true)
	}
	for _, literals := range []string{ten + " k", strings.Repeat("a ", 11), ".", "1", "a 1/2", "#t b", "\"a\"", "(a)", "a )", strings.Repeat("a", 31), "a " + strings.Repeat("a", 31)} {
		goodMacro(t, macroOf("m", literals, "(_ x)", "x"), false)
	}
	goodMacro(t, impl.Macro{Name: "m", Literals: []string{""}, Rules: []impl.Rule{{Pattern: "(_ x)", Template: "x"}}}, false)
	goodMacro(t, impl.Macro{Name: "m", Literals: []string{"a", "b c"}, Rules: []impl.Rule{{Pattern: "(_ x)", Template: "x"}}}, false)
}

func TestGoodMacroRules(t *testing.T) {
	rule := impl.Rule{Pattern: "(_ x)", Template: "x"}
	for many := range 14 {
		goodMacro(t, impl.Macro{Name: "m", Rules: slices.Repeat([]impl.Rule{rule}, many)}, many >= 1 && many <= 10)
	}
	good := []string{"(_)", "()", "(_ x ...)", "(a b c)", "(1 2)", "((a) b)", "'x", " ; a\n(_ x) ", "(_ (a . b))", "(_ ... x)", "(_ ...)", "(...)", "(_ x x)", "(_ ((x ...) ...))", "(if if)", "(\"a\" #t)", strings.Repeat("(", 25) + strings.Repeat(")", 25), "(" + strings.Repeat("a ", 299) + ")", "(_" + strings.Repeat(" ", 1497) + ")"}
	wrong := []string{"", " ", ";", "x", "1", "#t", "\"a\"", "_", "...", "(_) (_)", "(_) x", "x (_)", "(", ")", "(_", "(_))", ".", "(. a)", "(a .)", "\"", "'", "(_ . x)", "(_ x . y)", "\xff", "(\x00)", strings.Repeat("(", 26) + strings.Repeat(")", 26), "(" + strings.Repeat("a ", 300) + ")", "(_" + strings.Repeat(" ", 1498) + ")", strings.Repeat("(", 1<<20)}
	for _, pattern := range good {
		goodMacro(t, macroOf("m", "", pattern, "1"), true)
		goodMacro(t, macroOf("m", "", "(_)", pattern), true)
		goodMacro(t, macroOf("m", "", "(_)", "1", pattern, "2"), true)
	}
	for _, pattern := range wrong {
		goodMacro(t, macroOf("m", "", pattern, "1"), false)
		goodMacro(t, macroOf("m", "", "(_)", "1", pattern, "2"), false)
		goodMacro(t, macroOf("m", "", pattern, "1", "(_)", "2"), false)
	}
	for _, template := range []string{"x", "1", "#t", "\"a\"", "_", "...", "(_ . x)", "(_ x . y)", "()", "'x", "(x ...)", "(... ...)", "if", "(if)"} {
		goodMacro(t, macroOf("m", "", "(_)", template), true)
	}
	for _, template := range []string{"", " ", ";x", "1 2", "(a) b", "(", ")", "(a", "a)", ".", "(. a)", "\"", "'", "\xff", strings.Repeat("(", 26) + strings.Repeat(")", 26), "x" + strings.Repeat(" ", 1500)} {
		goodMacro(t, macroOf("m", "", "(_)", template), false)
		goodMacro(t, macroOf("m", "", "(_)", "1", "(_ x)", template), false)
	}
}

// A row of this table: literals, pattern, form, template, and what is filled; nothing where it does not match.
var matches = [][5]string{
	{"", "(_)", "(m)", "1", "1"}, {"", "(_)", "(m 1)", "1", ""}, {"", "(_ x)", "(m)", "x", ""}, {"", "(_ x)", "(m 1)", "x", "1"}, {"", "(_ x)", "(m 1 2)", "x", ""}, {"", "(_ x y)", "(m 1 (2 . 3))", "(y x y)", "((2 . 3) 1 (2 . 3))"},
	{"", "(m x)", "(other 1)", "x", "1"}, {"", "(1 x)", "((a b) 1)", "x", "1"}, {"", "((a b) x)", "(m 1)", "(a b x)", "(a b 1)"}, {"", "(x x)", "(m 1)", "x", "1"}, {"", "((x . x) x)", "(m 1)", "x", "1"}, {"", "(... x)", "(m 1)", "x", "1"}, {"", "((... x) x)", "(m 1)", "x", "1"}, {"m", "(m x)", "(n 1)", "x", "1"}, {"", "(_ x)", "(() 1)", "x", "1"}, {"", "(_ x)", "(\"a\" 1)", "x", "1"},
	{"", "()", "()", "1", ""}, {"", "()", "(m)", "1", ""}, {"", "(_)", "()", "1", ""}, {"", "(_ x ...)", "()", "1", ""},
	{"=>", "(_ x => y)", "(m 1 => 2)", "(y x)", "(2 1)"}, {"=>", "(_ x => y)", "(m 1 -> 2)", "(y x)", ""}, {"=>", "(_ =>)", "(m (=>))", "1", ""}, {"=>", "(_ =>)", "(m \"=>\")", "1", ""}, {"", "(_ x => y)", "(m 1 -> 2)", "(=> x y)", "(-> 1 2)"}, {"=>", "(_ x)", "(m =>)", "(x =>)", "(=> =>)"}, {"a b", "(_ b a)", "(m b a)", "1", "1"}, {"a b", "(_ b a)", "(m a b)", "1", ""}, {"=>", "(_ => =>)", "(m => =>)", "1", "1"}, {"=>", "(_ => ...)", "(m => =>)", "1", "1"}, {"=>", "(_ => ...)", "(m => 2)", "1", ""}, {"=>", "(_ (=> x) ...)", "(m (=> 1) (=> 2))", "(x ...)", "(1 2)"}, {"else", "(_ else)", "(m else)", "1", "1"}, {"else", "(_ else)", "(m if)", "1", ""}, {"t", "(_ t)", "(m #t)", "1", ""},
	{"", "(_ _)", "(m 1)", "_", "_"}, {"", "(_ _ x)", "(m 1 2)", "x", "2"}, {"", "(_ _ _)", "(m 1 2)", "3", "3"}, {"", "(_ (_ _) _)", "(m (1 2) 3)", "4", "4"}, {"", "(_ _)", "(m)", "1", ""}, {"", "(_ _)", "(m (1 . 2))", "1", "1"}, {"", "(_ _ ...)", "(m 1 2 3)", "4", "4"}, {"_", "(_ _)", "(m 1)", "1", ""}, {"_", "(_ _)", "(m _)", "1", "1"},
	{"", "(_ 1)", "(m 1)", "2", "2"}, {"", "(_ 1)", "(m 2)", "2", ""}, {"", "(_ 1)", "(m \"1\")", "2", ""}, {"", "(_ 1/2)", "(m 2/4)", "2", "2"}, {"", "(_ #xff)", "(m 255)", "2", "2"}, {"", "(_ \"a\")", "(m \"a\")", "2", "2"}, {"", "(_ \"a\")", "(m a)", "2", ""}, {"", "(_ \"a\")", "(m \"b\")", "2", ""}, {"", "(_ #t)", "(m #true)", "2", "2"}, {"", "(_ #t)", "(m #f)", "2", ""}, {"", "(_ \"t\")", "(m #t)", "2", ""}, {"", "(_ 1)", "(m (1))", "2", ""}, {"", "(_ 1)", "(m x)", "2", ""},
	{"", "(_ x \"...\")", "(m 1 \"...\")", "(x \"...\")", "(1 \"...\")"}, {"", "(_ x \"...\")", "(m 1 2)", "x", ""}, {"", "(_ \"_\")", "(m 1)", "1", ""}, {"", "(_ \"x\" x)", "(m \"x\" 2)", "(x \"x\")", "(2 \"x\")"},
	{"", "(_ ())", "(m ())", "1", "1"}, {"", "(_ ())", "(m (1))", "1", ""}, {"", "(_ ())", "(m 1)", "1", ""}, {"", "(_ (x y))", "(m (1 2))", "(y x)", "(2 1)"}, {"", "(_ (x y))", "(m (1))", "x", ""}, {"", "(_ (x y))", "(m (1 2 3))", "x", ""}, {"", "(_ (x y))", "(m (1 . 2))", "x", ""}, {"", "(_ (x y))", "(m 1 2)", "x", ""}, {"", "(_ (x))", "(m x)", "x", ""}, {"", "(_ ((x) (y)))", "(m ((1) (2)))", "(x y)", "(1 2)"}, {"", "(_ 'x)", "(m 'a)", "(x quote)", "(a quote)"}, {"quote", "(_ 'x)", "(m (a b))", "x", ""}, {"quote", "(_ 'x)", "(m 'a)", "x", "a"}, {"", "(_ x)", "(m 'a)", "x", "(quote a)"},
	{"", "(_ x ...)", "(m)", "(x ...)", "()"}, {"", "(_ x ...)", "(m 1)", "(x ...)", "(1)"}, {"", "(_ x ...)", "(m 1 (2) \"3\" 'd)", "(x ...)", "(1 (2) \"3\" (quote d))"}, {"", "(_ x y ...)", "(m)", "x", ""}, {"", "(_ x y ...)", "(m 1)", "(x y ...)", "(1)"}, {"", "(_ x y ...)", "(m 1 2 3)", "(y ... x)", "(2 3 1)"}, {"", "(_ x y z ...)", "(m 1 2)", "(z ...)", "()"}, {"", "(_ x y z ...)", "(m 1)", "(z ...)", ""}, {"", "(_ 1 x ...)", "(m 1 2 3)", "(x ...)", "(2 3)"}, {"", "(_ 1 x ...)", "(m 2 2 3)", "(x ...)", ""},
	{"", "(_ (x y) ...)", "(m (1 2) (3 4))", "((x ...) (y ...))", "((1 3) (2 4))"}, {"", "(_ (x y) ...)", "(m)", "((x ...) (y ...))", "(() ())"}, {"", "(_ (x y) ...)", "(m (1 2) (3))", "1", ""}, {"", "(_ (x y) ...)", "(m (1 2) 3)", "1", ""}, {"", "(_ (x (y z)) ...)", "(m (1 (2 3)) (4 (5 6)))", "(z ... y ... x ...)", "(3 6 2 5 1 4)"}, {"", "(_ (x ...) y ...)", "(m (1 2) 3 4 5)", "(y ... (x ...))", "(3 4 5 (1 2))"}, {"", "(_ (x ...) (y ...))", "(m () (1 2))", "((x ...) (y ...) z)", "(() (1 2) z)"}, {"", "(_ (x y ...) z)", "(m (1 2 3) 4)", "(x z y ...)", "(1 4 2 3)"}, {"", "(_ ((x ...)))", "(m ((1 2)))", "(x ...)", "(1 2)"}, {"", "(_ 1 ...)", "(m 1 1 1)", "2", "2"}, {"", "(_ 1 ...)", "(m 1 2 1)", "2", ""}, {"", "(_ 1 ...)", "(m)", "2", "2"}, {"", "(_ () ...)", "(m () ())", "2", "2"},
	// What may not stand in a pattern lets nothing match.
	{"", "(_ ...)", "(m)", "1", ""}, {"", "(_ ...)", "(m ...)", "1", ""}, {"", "(_ ... x)", "(m 1)", "1", ""}, {"", "(_ ... x)", "(m ... 1)", "1", ""}, {"", "(_ x ... y)", "(m 1 2)", "1", ""}, {"", "(_ x ... ...)", "(m 1 2)", "1", ""}, {"", "(_ ... ...)", "(m 1 2)", "1", ""}, {"", "(_ (...))", "(m (1))", "1", ""}, {"", "(_ (...) x)", "(m (...) 1)", "1", ""}, {"", "(_ (... x))", "(m (1 2))", "1", ""}, {"", "(_ x (...) ...)", "(m 1)", "1", ""}, {"...", "(_ ... x)", "(m ... 1)", "1", ""}, {"...", "(_ x ...)", "(m 1 2)", "(x ...)", "(1 2)"},
	{"", "(_ (x ...) ...)", "(m (1 2))", "1", ""}, {"", "(_ (x ...) ...)", "(m)", "1", ""}, {"", "(_ ((x y ...)) ...)", "(m)", "1", ""}, {"", "(_ ((1 ...)) ...)", "(m)", "1", ""}, {"", "(_ x x)", "(m 1 1)", "1", ""}, {"", "(_ x (x))", "(m 1 (1))", "1", ""}, {"", "(_ x x ...)", "(m 1)", "1", ""}, {"", "(_ (x x) ...)", "(m)", "1", ""}, {"", "(_ (x y) (z x))", "(m (1 2) (3 4))", "1", ""}, {"", "(_ (x ...) (x ...))", "(m () ())", "1", ""},
	{"", "(_ (x . y))", "(m (1 . 2))", "1", ""}, {"", "(_ (x . y) ...)", "(m)", "1", ""}, {"", "(_ ((1 . 2)))", "(m ((1 . 2)))", "1", ""}, {"", "(_ x)", "(m . 1)", "x", ""}, {"", "(_ x)", "(m 1 . 2)", "x", ""}, {"", "(_ x ...)", "(m 1 . 2)", "1", ""}, {"", "(_ x)", "m", "1", ""}, {"", "(_ x)", "1", "1", ""}, {"", "(_ x)", "\"(m 1)\"", "1", ""},
	// Templates.
	{"", "(_ x)", "(m 1)", "5", "5"}, {"", "(_ x)", "(m 1)", "\"x\"", "\"x\""}, {"", "(_ x)", "(m 1)", "#t", "#t"}, {"", "(_ t)", "(m 1)", "(#t \"t\" t)", "(#t \"t\" 1)"}, {"", "(_ x)", "(m 1)", "y", "y"}, {"", "(_ x)", "(m 1)", "...", "..."}, {"", "(_ x)", "(m 1)", "()", "()"}, {"", "(_ x)", "(m 1)", "'x", "(quote 1)"}, {"", "(_ x)", "(m y)", "(x y 'x)", "(y y (quote y))"}, {"", "(_ x y)", "(m y x)", "(x y)", "(y x)"}, {"", "(_ x)", "(m (m 2))", "(m x)", "(m (m 2))"}, {"", "(_ x)", "(m if)", "(x _)", "(if _)"}, {"", "(_ x)", "(m ...)", "(x x)", "(... ...)"},
	{"", "(_ x)", "(m 1)", "(x . x)", "(1 . 1)"}, {"", "(_ x)", "(m (1 2))", "(x . y)", "((1 2) . y)"}, {"", "(_ x)", "(m (1 2))", "(a . x)", ""}, {"", "(_ x)", "(m ())", "(a . x)", ""}, {"", "(_ x)", "(m (1 . 2))", "(a . x)", ""}, {"", "(_ x ...)", "(m 1 2)", "(x ... . y)", "(1 2 . y)"}, {"", "(_ x ...)", "(m)", "(x ... . y)", ""}, {"", "(_ x ...)", "(m)", "(a x ... . y)", "(a . y)"}, {"", "(_ x ...)", "(m 1)", "(a . x)", ""},
	{"", "(_ x ...)", "(m 1 2)", "(x ... x ...)", "(1 2 1 2)"}, {"", "(_ x ...)", "(m 1 2)", "((x) ...)", "((1) (2))"}, {"", "(_ x ...)", "(m 1 2)", "((f x x) ... g)", "((f 1 1) (f 2 2) g)"}, {"", "(_ y x ...)", "(m 0 1 2)", "((y x) ...)", "((0 1) (0 2))"}, {"", "(_ y x ...)", "(m 0)", "((y x) ... y)", "(0)"}, {"", "(_ (x y) ...)", "(m (1 2) (3 4))", "((y . x) ...)", "((2 . 1) (4 . 3))"}, {"", "(_ (x ...) (y ...))", "(m (1 2) (3 4))", "((x y) ...)", "((1 3) (2 4))"}, {"", "(_ (x ...) (y ...))", "(m () ())", "((x y) ...)", "()"}, {"", "(_ x ...)", "(m 1 2)", "('x ...)", "((quote 1) (quote 2))"}, {"", "(_ x ...)", "(m 1 2)", "(a x ... b)", "(a 1 2 b)"}, {"", "(_ x ...)", "(m 1 2)", "((((x))) ...)", "((((1))) (((2))))"},
	{"", "(_ x)", "(m 1)", "(x ...)", ""}, {"", "(_ x)", "(m 1)", "(1 ...)", ""}, {"", "(_ x ...)", "(m 1)", "((f y) ...)", ""}, {"", "(_ x ...)", "(m)", "(y ... x ...)", ""}, {"", "(_ x)", "(m 1)", "(... ...)", ""}, {"", "(_ x ...)", "(m 1)", "x", ""}, {"", "(_ x ...)", "(m)", "x", ""}, {"", "(_ x ...)", "(m 1)", "(x)", ""}, {"", "(_ x ...)", "(m 1)", "(x ... x)", ""}, {"", "(_ x ...)", "(m 1)", "((x) ... (x))", ""}, {"", "(_ (x ...) (y ...))", "(m (1 2) (3))", "((x y) ...)", ""}, {"", "(_ (x ...) (y ...))", "(m () (3))", "((x y) ...)", ""}, {"", "(_ (x ...) (y ...))", "(m (1 2) (3))", "(x ... y ...)", "(1 2 3)"}, {"", "(_ x ...)", "(m 1 2)", "((x ...) ...)", ""}, {"", "(_ x ...)", "(m)", "((x ...) ...)", "()"}, {"", "(_ (x ...) (y ...))", "(m (1) (2))", "((x y ...) ...)", ""}, {"", "(_ x ...)", "(m 1 2)", "(... x ...)", "(... 1 2)"}, {"", "(_ x ...)", "(m 1 2)", "(x ... ...)", "(1 2 ...)"}, {"", "(_ x y ...)", "(m 1 2)", "(x ... y ...)", ""},
}

func TestApplyMacro(t *testing.T) {
	for _, row := range matches {
		m := macroOf("m", row[0], row[1], row[3])
		if !impl.GoodMacro(m) {
			t.Errorf("GoodMacro(%v) is false", m)
		}
		if row[4] == "" {
			appliesNot(t, m, row[2])
			expandFails(t, row[2]+" (if)", []impl.Macro{m}, impl.ExpandForm)
		} else {
			applies(t, m, row[2], row[4])
			applies(t, m, " ;\n"+row[2]+"\t", row[4])
		}
	}
}

func TestApplyMacroTakesTheFirstRuleThatMatches(t *testing.T) {
	m := macroOf("m", "=>", "(_)", "none", "(_ 1)", "one", "(_ x => y)", "(y x)", "(_ (x) ...)", "(row x ...)", "(_ x x)", "twice", "(_ x)", "(any x)", "(_ x y ...)", "(x ... y)", "(_ . x)", "dot")
	m.Rules = m.Rules[:7]
	for _, row := range [][2]string{{"(m)", "none"}, {"(m 1)", "one"}, {"(m a => b)", "(b a)"}, {"(m (1) (2))", "(row 1 2)"}, {"(m (1))", "(row 1)"}, {"(m 2)", "(any 2)"}, {"(m (1 2))", "(any (1 2))"}} {
		applies(t, m, row[0], row[1])
	}
	// The first rule that matches counts, even where it is not filled.
	appliesNot(t, m, "(m 3 3)")
	appliesNot(t, macroOf("m", "", "(_ x)", "(x ...)", "(_ x)", "x"), "(m 1)")
	applies(t, macroOf("m", "", "(_ x x)", "1", "(_ x ... y)", "2", "(_ ((x ...) ...))", "3", "(_ (x . y) ...)", "4", "()", "5", "(_ x ...)", "(6 x ...)"), "(m a)", "(6 a)")
	ten := macroOf("m", "", "(_ 0)", "0", "(_ 1)", "1", "(_ 2)", "2", "(_ 3)", "3", "(_ 4)", "4", "(_ 5)", "5", "(_ 6)", "6", "(_ 7)", "7", "(_ 8)", "8", "(_ 9)", "nine")
	applies(t, ten, "(m 9)", "nine")
	appliesNot(t, ten, "(m 10)")
}

func TestApplyMacroOfNoForm(t *testing.T) {
	m := macroOf("m", "", "(_ x ...)", "1")
	for _, form := range []string{"", " ", ";(m)", "m", "1", "#t", "\"m\"", "()", "(m) (m)", "(m) 1", "1 (m)", "(m . 1)", "(m 1 . 2)", "(", ")", "(m", "(m))", "(m .)", "\"", "'", "\xff", "(m \x00)", "(m [)", "(m" + strings.Repeat(" ", 1498) + ")", "(" + strings.Repeat("a ", 300) + ")", strings.Repeat("(", 26) + strings.Repeat(")", 26), strings.Repeat("(", 1<<20)} {
		appliesNot(t, m, form)
	}
	for _, form := range []string{"(m)", "'m", "(())", "(m 'a)", "(m" + strings.Repeat(" ", 1497) + ")", "(" + strings.Repeat("a ", 299) + ")", strings.Repeat("(", 25) + "a" + strings.Repeat(")", 25)} {
		applies(t, m, form, "1")
	}
}

// A rule with a row gives all of it (promise 4).
func TestARuleWithARowGivesAllOfIt(t *testing.T) {
	d := &dice{state: 67}
	row := macroOf("m", "", "(_ x ...)", "(x ...)")
	split := macroOf("m", "", "(_ x y z ...)", "(x y z ...)")
	pairs := macroOf("m", "", "(_ (x y) ...)", "((x y) ...)")
	check := func(f tree) {
		t.Helper()
		want := textOf([]tree{listTree(f.parts[1:]...)})
		form := textOf([]tree{f})
		if len(form) > impl.MaxText || !impl.GoodData(nodesOf([]tree{f})) {
			return
		}
		applies(t, row, form, want)
		if len(f.parts) > 2 {
			applies(t, split, form, want)
		}
		two := func(part tree) bool { return part.kind == impl.DatumList && len(part.parts) == 2 }
		if !slices.ContainsFunc(f.parts[1:], func(part tree) bool { return !two(part) }) {
			applies(t, pairs, form, want)
		}
	}
	for many := range 299 {
		check(listTree(append([]tree{symTree("m")}, symbols(many)...)...))
	}
	for range 3000 {
		check(listTree(append([]tree{symTree("m")}, d.forest(6, 4)...)...))
		check(listTree(symTree("m"), listTree(d.leaf(), d.leaf()), listTree(d.leaf(), d.leaf())))
	}
}

func TestApplyMacroLimits(t *testing.T) {
	twice := macroOf("m", "", "(_ x ...)", "(x ... x ...)")
	form := func(many int) string { return "(m" + strings.Repeat(" a", many) + ")" }
	applies(t, twice, form(149), "(a"+strings.Repeat(" a", 297)+")")
	appliesNot(t, twice, form(150))
	more := macroOf("m", "", "(_ x ...)", "(b x ... x ...)")
	applies(t, more, form(149), "(b"+strings.Repeat(" a", 298)+")")
	appliesNot(t, macroOf("m", "", "(_ x ...)", "(b b x ... x ...)"), form(149))
	appliesNot(t, macroOf("m", "", "(_ x)", "("+strings.Repeat("x ", 299)+")"), "(m (a"+strings.Repeat(" a", 290)+"))")

	deep := func(lists int) string { return strings.Repeat("(", lists) + strings.Repeat(")", lists) }
	five := macroOf("m", "", "(_ x)", "(((((x)))))")
	applies(t, five, "(m "+deep(20)+")", deep(25))
	appliesNot(t, five, "(m "+deep(21)+")")
	applies(t, macroOf("m", "", "(_ x)", "x"), "(m "+deep(24)+")", deep(24))

	// Three parts and 4 bytes beside them: just MaxText, and one more.
	three := macroOf("m", "", "(_ x y)", "(x x y)")
	applies(t, three, "(m "+nines(500)+" "+nines(496)+")", "("+nines(500)+" "+nines(500)+" "+nines(496)+")")
	appliesNot(t, three, "(m "+nines(500)+" "+nines(497)+")")
}

// patternTree makes a pattern; mostly a sound one.
func (d *dice) patternTree(deep int, names *[]string, wrong bool) tree {
	if deep == 0 || d.below(3) > 0 {
		switch d.below(7) {
		case 0:
			return symTree("_")
		case 1:
			return symTree("=>")
		case 2:
			return read([]string{"1", "\"a\"", "#t", "()", "2"}[d.below(5)])[0]
		}
		name := []string{"x", "y", "z", "u", "v", "w"}[d.below(6)]
		if !wrong && slices.Contains(*names, name) {
			return symTree("_")
		}
		*names = append(*names, name)
		return symTree(name)
	}
	var out tree
	out.kind = impl.DatumList
	for range d.below(4) {
		out.parts = append(out.parts, d.patternTree(deep-1, names, wrong))
	}
	if d.below(3) == 0 && (wrong || len(out.parts) > 0 && !strings.Contains(textOf(out.parts), "...")) {
		out.parts = append(out.parts, symTree("..."))
	}
	if wrong && d.below(10) == 0 && len(out.parts) >= 2 && out.parts[len(out.parts)-1].kind < impl.DatumList {
		out.kind = impl.DatumDotted
	}
	return out
}

// templateTree makes a template with the names of a pattern.
func (d *dice) templateTree(deep int, names []string) tree {
	if deep == 0 || d.below(3) == 0 {
		if len(names) == 0 || d.below(5) == 0 {
			return read([]string{"1", "a", "=>", "_", "#f", "\"x\""}[d.below(6)])[0]
		}
		return symTree(names[d.below(len(names))])
	}
	out := tree{kind: impl.DatumList}
	for range d.below(4) {
		out.parts = append(out.parts, d.templateTree(deep-1, names))
		if d.below(3) == 0 {
			out.parts = append(out.parts, symTree("..."))
		}
	}
	if last := len(out.parts) - 1; last >= 1 && d.below(6) == 0 && out.parts[last].kind < impl.DatumList {
		out.kind = impl.DatumDotted
	}
	return out
}

// likePattern makes a form that a pattern mostly matches.
func (d *dice) likePattern(p tree) tree {
	if d.below(30) == 0 {
		return d.leaf()
	}
	if p.kind == impl.DatumSym && p.text != "=>" {
		if d.below(3) == 0 {
			return listTree(d.forest(3, 1)...)
		}
		return d.leaf()
	}
	out := tree{kind: p.kind, text: p.text}
	for at, part := range p.parts {
		if !isSym(part, "...") {
			out.parts = append(out.parts, d.likePattern(part))
		} else if at > 0 {
			out.parts = out.parts[:len(out.parts)-1]
			for range d.below(4) {
				out.parts = append(out.parts, d.likePattern(p.parts[at-1]))
			}
		}
	}
	if n := len(out.parts); out.kind == impl.DatumDotted && (n < 2 || out.parts[n-1].kind >= impl.DatumList) {
		out.kind = impl.DatumList
	}
	return out
}

func TestApplyMacroAsModel(t *testing.T) {
	d := &dice{state: 71}
	good := 0
	for n := range 40000 {
		m := impl.Macro{Name: "m", Literals: []string{"=>"}}
		var form tree
		for rule := range 1 + d.below(3) {
			var names []string
			p := listTree(symTree("_"))
			for p.parts = p.parts[:1]; len(p.parts) < 2; {
				p.parts = append(p.parts, d.patternTree(2, &names, n%4 == 0))
			}
			if inner := p.parts[1]; inner.kind == impl.DatumList && d.below(2) == 0 {
				p.parts = append(p.parts[:1], inner.parts...)
			}
			if rule == 0 || d.below(2) == 0 {
				form = d.likePattern(p)
			}
			m.Rules = append(m.Rules, impl.Rule{Pattern: textOf([]tree{p}), Template: textOf([]tree{d.templateTree(3, names)})})
		}
		want, ok := modelApply(m, form)
		got, gotOk := impl.ApplyMacro(m, textOf([]tree{form}))
		if !ok {
			refused(t, fmt.Sprintf("ApplyMacro(%v, %q)", m, textOf([]tree{form})), got, gotOk)
			continue
		}
		good++
		told(t, fmt.Sprintf("ApplyMacro(%v, %q)", m, textOf([]tree{form})), got, gotOk, textOf([]tree{want}))
	}
	if good < 5000 {
		t.Error("only", good, "apply")
	}
}
