package tests

import (
	"fmt"
	"reflect"
	"slices"
	"strings"
	"testing"

	"loop.example/g00201/impl"
)

var keywords = []string{
	"quote", "if", "define", "set!", "lambda", "begin", "let", "let*", "letrec", "cond", "else", "and", "or", "when", "unless",
	"define-syntax", "syntax-rules",
}

// treesOf makes trees of nodes, from the last one on.
func treesOf(l []impl.Datum) []tree {
	inner := make([][]tree, len(l)+1)
	for at := len(l) - 1; at >= 0; at-- {
		up := l[at].Up + 1
		inner[up] = append([]tree{{kind: l[at].Kind, text: l[at].Text, parts: inner[at+1]}}, inner[up]...)
	}
	return inner[0]
}

// readBefore keeps what read made: the models ask for the same few texts again and again.
var readBefore = map[string][]tree{}

// read makes trees of a text that is good. Nobody writes into them.
func read(text string) []tree {
	if before, ok := readBefore[text]; ok {
		return before
	}
	l, code := impl.ReadData(text)
	if code != impl.ReadOk {
		panic(fmt.Sprintf("%q is no data: %d", text, code))
	}
	readBefore[text] = treesOf(l)
	return readBefore[text]
}

func isSym(p tree, text string) bool { return p.kind == impl.DatumSym && p.text == text }

// macroOf makes a macro of a name, literals with blanks between, and patterns each with a template behind it.
func macroOf(name string, literals string, rules ...string) impl.Macro {
	m := impl.Macro{Name: name, Literals: strings.Fields(literals)}
	for at := 0; at < len(rules); at += 2 {
		m.Rules = append(m.Rules, impl.Rule{Pattern: rules[at], Template: rules[at+1]})
	}
	return m
}

// ruleModel applies one rule by writing rows out: the symbols of the third one in a row are those with " 3" behind.
type ruleModel struct {
	literals []string
	env      map[string]tree
	rows     map[string]int
}

func (m *ruleModel) isLiteral(p tree) bool {
	return p.kind == impl.DatumSym && slices.Contains(m.literals, p.text)
}

// each calls what is asked with every symbol of a tree that is bound by it as a pattern.
func (m *ruleModel) each(p tree, call func(name string)) {
	if p.kind == impl.DatumSym && !m.isLiteral(p) && p.text != "_" && p.text != "..." {
		call(p.text)
	}
	for _, part := range p.parts {
		m.each(part, call)
	}
}

// sound tells whether something may match a pattern: a dot, a ... and a symbol that may not stand there.
func (m *ruleModel) sound(p tree) bool {
	counts := map[string]int{}
	m.each(p, func(name string) { counts[name]++ })
	for _, many := range counts {
		if many > 1 {
			return false
		}
	}
	return m.soundDots(p, false)
}

func (m *ruleModel) soundDots(p tree, inRow bool) bool {
	if p.kind == impl.DatumDotted {
		return false
	}
	last := len(p.parts) - 1
	for at, part := range p.parts {
		dots := isSym(part, "...")
		if dots && (at != last || at == 0 || inRow || isSym(p.parts[at-1], "...")) {
			return false
		}
		before := at+1 == last && isSym(p.parts[last], "...")
		if !m.soundDots(part, inRow || before) {
			return false
		}
	}
	return true
}

func (m *ruleModel) match(p tree, f tree, mark string) bool {
	switch {
	case m.isLiteral(p) || p.kind != impl.DatumSym && p.kind != impl.DatumList:
		return reflect.DeepEqual(p, f)
	case p.kind == impl.DatumList:
		return f.kind == impl.DatumList && m.matchParts(p.parts, f.parts, mark)
	case p.text != "_":
		m.env[p.text+mark] = f
	}
	return true
}

func (m *ruleModel) matchParts(ps []tree, fs []tree, mark string) bool {
	if last := len(ps) - 1; last >= 0 && isSym(ps[last], "...") {
		row, ahead := ps[last-1], last-1
		if len(fs) < ahead {
			return false
		}
		m.each(row, func(name string) { m.rows[name] = len(fs) - ahead })
		for at, f := range fs[ahead:] {
			if !m.match(row, f, fmt.Sprint(" ", at)) {
				return false
			}
		}
		ps, fs = ps[:ahead], fs[:ahead]
	}
	if len(ps) != len(fs) {
		return false
	}
	for at := range ps {
		if !m.match(ps[at], fs[at], mark) {
			return false
		}
	}
	return true
}

func (m *ruleModel) fill(p tree, mark string) (tree, bool) {
	if p.kind == impl.DatumSym {
		if _, isRow := m.rows[p.text]; isRow {
			return m.env[p.text+mark], mark != ""
		}
		if f, isBound := m.env[p.text]; isBound {
			return f, true
		}
		return p, true
	}
	out := tree{kind: p.kind, text: p.text}
	for at := 0; at < len(p.parts); at++ {
		marks := []string{mark}
		if at+1 < len(p.parts) && isSym(p.parts[at+1], "...") {
			many := m.rowsIn(p.parts[at])
			if many < 0 || mark != "" {
				return tree{}, false
			}
			marks = nil
			for n := range many {
				marks = append(marks, fmt.Sprint(" ", n))
			}
		}
		for _, one := range marks {
			part, ok := m.fill(p.parts[at], one)
			if !ok {
				return tree{}, false
			}
			out.parts = append(out.parts, part)
		}
		if at+1 < len(p.parts) && isSym(p.parts[at+1], "...") {
			at++
		}
	}
	return out, true
}

// rowsIn is the length of all rows in a template; -1 without one, or where they are unlike.
func (m *ruleModel) rowsIn(p tree) int {
	many := -1
	unlike := false
	plain := &ruleModel{}
	plain.each(p, func(name string) {
		if n, isRow := m.rows[name]; isRow {
			unlike = unlike || many >= 0 && many != n
			many = n
		}
	})
	if unlike {
		return -1
	}
	return many
}

// modelApply is what a macro should make of a form.
func modelApply(m impl.Macro, f tree) (tree, bool) {
	if f.kind != impl.DatumList || len(f.parts) == 0 {
		return tree{}, false
	}
	for _, r := range m.Rules {
		p := read(r.Pattern)[0]
		model := &ruleModel{m.Literals, map[string]tree{}, map[string]int{}}
		if len(p.parts) == 0 {
			continue
		}
		if p.parts = p.parts[1:]; model.sound(p) && model.matchParts(p.parts, f.parts[1:], "") {
			out, ok := model.fill(read(r.Template)[0], "")
			return out, ok && impl.GoodData(nodesOf([]tree{out}))
		}
	}
	return tree{}, false
}

// simplerModel are the document's simpler forms, as patterns and templates. What is never bound is (%false X), an #f
// each.
var simplerModel = [][2]string{
	{"(if A B)", "(if A B #f)"},
	{"(define (F P ...) A B ...)", "(define F (lambda (P ...) A B ...))"},
	{"(lambda P A B C ...)", "(lambda P (begin A B C ...))"},
	{"(let ((X A) ...) B C ...)", "((lambda (X ...) B C ...) A ...)"},
	{"(let Name ((X A) ...) B C ...)", "((letrec ((Name (lambda (X ...) B C ...))) Name) A ...)"},
	{"(let* () B C ...)", "(let () B C ...)"},
	{"(let* ((X A) C ...) B D ...)", "(let ((X A)) (let* (C ...) B D ...))"},
	{"(letrec ((X A) ...) B C ...)", "((lambda (X ...) (set! X A) ... (let () B C ...)) (%false X) ...)"},
	{"(cond)", "#f"},
	{"(cond (else A B ...))", "(begin A B ...)"},
	{"(cond (A) C ...)", "(or A (cond C ...))"},
	{"(cond (A B D ...) C ...)", "(if A (begin B D ...) (cond C ...))"},
	{"(and)", "#t"},
	{"(and A)", "A"},
	{"(and A B C ...)", "(if A (and B C ...) #f)"},
	{"(or)", "#f"},
	{"(or A)", "A"},
	{"(or A B C ...)", "(let ((%t A)) (if %t %t (or B C ...)))"},
	{"(when A B C ...)", "(if A (begin B C ...) #f)"},
	{"(unless A B C ...)", "(if A #f (begin B C ...))"},
}

// modelSimpler tells a keyword's form by a simpler one, by the first row that fits.
func modelSimpler(f tree) (tree, bool) {
	f, dot := undotted(f)
	for _, row := range simplerModel {
		p := read(row[0])[0]
		model := &ruleModel{append([]string{}, keywords...), map[string]tree{}, map[string]int{}}
		if !model.match(p, f, "") {
			continue
		}
		if name, named := model.env["Name"]; named && name.kind != impl.DatumSym {
			continue
		}
		out, ok := model.fill(read(row[1])[0], "")
		return unmarked(out, dot), ok
	}
	return tree{}, false
}

// undotted writes (define (F . P) A ..) as (define (F (%dot P)) A ..).
func undotted(f tree) (tree, bool) {
	if len(f.parts) < 2 || !isSym(f.parts[0], "define") || f.parts[1].kind != impl.DatumDotted {
		return f, false
	}
	inner := slices.Clone(f.parts[1].parts)
	inner[len(inner)-1] = listTree(symTree("%dot"), inner[len(inner)-1])
	parts := slices.Clone(f.parts)
	parts[1] = listTree(inner...)
	return listTree(parts...), true
}

// unmarked takes (%false X) for #f, and a list of parameters that ends with (%dot P) for a dotted one.
func unmarked(f tree, dot bool) tree {
	if f.kind != impl.DatumList || len(f.parts) == 0 {
		return f
	}
	if isSym(f.parts[0], "define") && dot {
		lambda := f.parts[2]
		names := lambda.parts[1].parts
		last := len(names) - 1
		p := dottedTree(append(slices.Clone(names[:last]), names[last].parts[1])...)
		if last == 0 {
			p = names[0].parts[1]
		}
		return listTree(f.parts[0], f.parts[1], listTree(append([]tree{lambda.parts[0], p}, lambda.parts[2:]...)...))
	}
	out := slices.Clone(f.parts)
	for at, part := range out {
		if part.kind == impl.DatumList && len(part.parts) > 0 && isSym(part.parts[0], "%false") {
			out[at] = boolTree("f")
		}
	}
	return listTree(out...)
}

func isName(p tree) bool { return p.kind == impl.DatumSym && !slices.Contains(keywords, p.text) }

// modelCore gives the parts of a form that must be core forms for it to be one, and whether it is one then.
func modelCore(f tree) ([]tree, bool) {
	if f.kind != impl.DatumList {
		return nil, f.kind != impl.DatumDotted && (f.kind != impl.DatumSym || isName(f))
	}
	many := len(f.parts)
	if many == 0 {
		return nil, false
	}
	switch {
	case isSym(f.parts[0], "quote"):
		return nil, many == 2
	case isSym(f.parts[0], "if") && many == 4, isSym(f.parts[0], "begin") && many >= 2:
		return f.parts[1:], true
	case (isSym(f.parts[0], "define") || isSym(f.parts[0], "set!")) && many == 3:
		return f.parts[2:], isName(f.parts[1])
	case isSym(f.parts[0], "lambda") && many == 3:
		return f.parts[2:], areParameters(f.parts[1])
	}
	return f.parts, f.parts[0].kind != impl.DatumSym || isName(f.parts[0])
}

func areParameters(p tree) bool {
	names := p.parts
	if p.kind != impl.DatumList && p.kind != impl.DatumDotted {
		names = []tree{p}
	}
	for at, name := range names {
		same := func(other tree) bool { return other.text == name.text }
		if !isName(name) || slices.ContainsFunc(names[:at], same) {
			return false
		}
	}
	return true
}

// task is a form that is not a core form yet.
type task struct {
	at     *tree
	around int
}

// expandModel makes core forms in place, by a pile of what is to be done.
type expandModel struct {
	macros []impl.Macro
	told   int
}

func (m *expandModel) expand(f *tree) int {
	pile := []task{{f, 0}}
	for len(pile) > 0 {
		now := pile[len(pile)-1]
		pile = pile[:len(pile)-1]
		if now.around > 100 {
			return impl.ExpandMany
		}
		inner, isCore := modelCore(*now.at)
		macro := m.named(*now.at)
		if isCore && macro < 0 {
			now.at.parts = slices.Clone(now.at.parts)
			for n := range len(inner) {
				pile = append(pile, task{&now.at.parts[len(now.at.parts)-1-n], now.around + 1})
			}
			continue
		}
		simpler, ok := tree{}, false
		if macro >= 0 {
			simpler, ok = modelApply(m.macros[macro], *now.at)
		} else {
			simpler, ok = modelSimpler(*now.at)
		}
		if !ok {
			return impl.ExpandForm
		}
		if m.told++; m.told > 400 {
			return impl.ExpandMany
		}
		*now.at = simpler
		pile = append(pile, now)
	}
	return impl.ExpandOk
}

func (m *expandModel) named(f tree) int {
	if f.kind != impl.DatumList || len(f.parts) == 0 || f.parts[0].kind != impl.DatumSym {
		return -1
	}
	return slices.IndexFunc(m.macros, func(one impl.Macro) bool { return one.Name == f.parts[0].text })
}

// syntax gives the macro of a define-syntax.
func (m *expandModel) syntax(f tree) (impl.Macro, bool) {
	rule := &ruleModel{[]string{"define-syntax", "syntax-rules"}, map[string]tree{}, map[string]int{}}
	if !rule.match(read("(define-syntax N (syntax-rules (L ...) (P T) ...))")[0], f, "") {
		return impl.Macro{}, false
	}
	out := impl.Macro{Name: rule.env["N"].text}
	if rule.env["N"].kind != impl.DatumSym {
		return impl.Macro{}, false
	}
	for at := range rule.rows["L"] {
		literal := rule.env[fmt.Sprint("L ", at)]
		out.Literals = append(out.Literals, literal.text)
		if literal.kind != impl.DatumSym {
			return impl.Macro{}, false
		}
	}
	for at := range rule.rows["P"] {
		p, t := rule.env[fmt.Sprint("P ", at)], rule.env[fmt.Sprint("T ", at)]
		out.Rules = append(out.Rules, impl.Rule{Pattern: textOf([]tree{p}), Template: textOf([]tree{t})})
	}
	return out, modelGoodMacro(out)
}

func modelGoodMacro(m impl.Macro) bool {
	good := impl.GoodSymbol(m.Name) && !slices.Contains(keywords, m.Name) && len(m.Literals) <= 10 && len(m.Rules) >= 1 && len(m.Rules) <= 10
	for _, literal := range m.Literals {
		good = good && impl.GoodSymbol(literal)
	}
	for _, r := range m.Rules {
		p, pCode := impl.ReadData(r.Pattern)
		t, tCode := impl.ReadData(r.Template)
		good = good && pCode == 0 && tCode == 0 && len(treesOf(p)) == 1 && len(treesOf(t)) == 1 && p[0].Kind == impl.DatumList
	}
	return good
}

// modelExpand is what ExpandForms should answer.
func modelExpand(s string, macros []impl.Macro) (string, []impl.Macro, int) {
	l, code := impl.ReadData(s)
	if code != impl.ReadOk || len(macros) > 20 || slices.ContainsFunc(macros, func(m impl.Macro) bool { return !modelGoodMacro(m) }) {
		return "", nil, impl.ExpandData
	}
	m := &expandModel{macros: slices.Clone(macros)}
	var out []tree
	for _, f := range treesOf(l) {
		if macro, ok := m.syntax(f); ok {
			at := slices.IndexFunc(m.macros, func(one impl.Macro) bool { return one.Name == macro.Name })
			if at >= 0 {
				m.macros[at] = macro
			} else if m.macros = append(m.macros, macro); len(m.macros) > 20 {
				return "", nil, impl.ExpandMany
			}
			continue
		}
		if code := m.expand(&f); code != impl.ExpandOk {
			return "", nil, code
		}
		out = append(out, f)
	}
	if text := textOf(out); impl.GoodData(nodesOf(out)) && len(text) <= impl.MaxText {
		return text, m.macros, impl.ExpandOk
	}
	return "", nil, impl.ExpandMany
}

// sameMacros compares macros, an empty list being the same as none.
func sameMacros(a []impl.Macro, b []impl.Macro) bool {
	return slices.EqualFunc(a, b, func(x impl.Macro, y impl.Macro) bool {
		return x.Name == y.Name && slices.Equal(x.Literals, y.Literals) && slices.Equal(x.Rules, y.Rules)
	})
}

// expandAsModel holds ExpandForms against the model, and gives the code.
func expandAsModel(t *testing.T, s string, macros []impl.Macro) int {
	t.Helper()
	want, wantMacros, wantCode := modelExpand(s, macros)
	got, gotMacros, code := impl.ExpandForms(s, macros)
	if got != want || code != wantCode || !sameMacros(gotMacros, wantMacros) {
		t.Errorf("ExpandForms(%q, %v): %q, %v, %d; wanted %q, %v, %d", s, macros, got, gotMacros, code, want, wantMacros, wantCode)
	}
	return code
}

// expandsTo asks for a text, of no macros.
func expandsTo(t *testing.T, s string, want string) {
	t.Helper()
	expandsWith(t, s, nil, want)
}

func expandsWith(t *testing.T, s string, macros []impl.Macro, want string) {
	t.Helper()
	got, _, code := impl.ExpandForms(s, macros)
	if got != want || code != impl.ExpandOk {
		t.Errorf("ExpandForms(%q): %q, %d; wanted %q", short(s), short(got), code, short(want))
	}
}

// expandFails asks for no text, no macros, and a code.
func expandFails(t *testing.T, s string, macros []impl.Macro, want int) {
	t.Helper()
	got, gotMacros, code := impl.ExpandForms(s, macros)
	if got != "" || len(gotMacros) != 0 || code != want {
		t.Errorf("ExpandForms(%q): %q, %v, %d; wanted nothing, code %d", short(s), short(got), gotMacros, code, want)
	}
}

// applies asks for what a macro makes of a form.
func applies(t *testing.T, m impl.Macro, form string, want string) {
	t.Helper()
	got, ok := impl.ApplyMacro(m, form)
	told(t, fmt.Sprintf("ApplyMacro(%s, %q)", short(fmt.Sprint(m)), short(form)), got, ok, want)
}

// appliesNot asks for the zero answer of a macro and a form.
func appliesNot(t *testing.T, m impl.Macro, form string) {
	t.Helper()
	got, ok := impl.ApplyMacro(m, form)
	refused(t, fmt.Sprintf("ApplyMacro(%s, %q)", short(fmt.Sprint(m)), short(form)), got, ok)
}
