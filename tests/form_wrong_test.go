package tests

import (
	"fmt"
	"slices"
	"strings"
	"testing"
	"time"

	"loop.example/g00201/impl"
)

// wrongMacros are macros that are not good, one wrong way each.
func wrongMacros() []impl.Macro {
	rules := []impl.Rule{{Pattern: "(_ x)", Template: "x"}}
	return []impl.Macro{
		{}, {Name: "m"}, {Rules: rules}, {Name: "m", Rules: []impl.Rule{}}, {Name: "m", Rules: []impl.Rule{{}}}, {Name: "m", Literals: []string{""}, Rules: rules}, {Name: "m", Literals: make([]string, 11), Rules: rules}, {Name: "m", Literals: make([]string, 1<<20), Rules: rules},
		{Name: "m", Rules: []impl.Rule{{Pattern: "(_)"}}}, {Name: "m", Rules: []impl.Rule{{Template: "1"}}}, {Name: "m", Rules: make([]impl.Rule, 10)}, {Name: "m", Rules: make([]impl.Rule, 1<<20)}, {Name: "m", Rules: []impl.Rule{rules[0], {}}}, {Name: "m", Rules: slices.Repeat(rules, 11)}, {Name: "m", Rules: slices.Repeat(rules, 100000)},
		{Name: "if", Rules: rules}, {Name: "else", Rules: rules}, {Name: "\xff", Rules: rules}, {Name: "1", Rules: rules}, {Name: strings.Repeat("m", 1<<20), Rules: rules}, {Name: "m", Literals: []string{"1"}, Rules: rules}, {Name: "m", Literals: []string{strings.Repeat("m", 1<<20)}, Rules: rules},
		{Name: "m", Rules: []impl.Rule{{Pattern: strings.Repeat("(", 1<<20), Template: "1"}}}, {Name: "m", Rules: []impl.Rule{{Pattern: "(_)", Template: strings.Repeat("(", 1<<20)}}}, {Name: "m", Rules: []impl.Rule{{Pattern: "\x00", Template: "\xff"}}},
	}
}

func TestWrongMacros(t *testing.T) {
	for _, m := range wrongMacros() {
		goodMacro(t, m, false)
		for _, form := range []string{"", "(m 1)", "(if)", "\xff", "(", strings.Repeat("(", 1<<20)} {
			appliesNot(t, m, form)
			expandFails(t, form, []impl.Macro{m}, impl.ExpandData)
			expandFails(t, form, []impl.Macro{twice, m}, impl.ExpandData)
		}
	}
	expandFails(t, "", make([]impl.Macro, 1<<20), impl.ExpandData)
}

// Nothing is given, or nothing is in it.
func TestNoForms(t *testing.T) {
	for _, none := range [][]impl.Macro{nil, {}, make([]impl.Macro, 0, 3)} {
		macrosTold(t, "", none)
		macrosTold(t, "(f)", none)
		expandsWith(t, "", none, "")
	}
	if impl.IsKeyword("") || !impl.IsCore("") {
		t.Error("the empty text is a keyword, or no forms are no core forms")
	}
	empty := impl.Macro{Name: "m", Literals: []string{}, Rules: []impl.Rule{{Pattern: "()", Template: "()"}}}
	goodMacro(t, empty, true)
	appliesNot(t, empty, "")
	appliesNot(t, empty, "()")
}

// Texts of any bytes, and of any words, have an answer.
func TestFormsOfAnyBytes(t *testing.T) {
	d := &dice{state: 79}
	words := append([]string{"(", "(", "(", ")", ")", ")", "'", ".", "...", "_", "x", "y", "m", "1", "\"a\"", "#t", ";", "\n", "\xff", "=>"}, keywords...)
	for n := range 20000 {
		text := ""
		for range d.below(25) {
			if n%2 == 0 {
				text += string([]byte{byte(d.below(256))})
			} else {
				text += words[d.below(len(words))] + " "
			}
		}
		m := impl.Macro{Name: "m", Literals: []string{"=>"}, Rules: []impl.Rule{{Pattern: "(_ x ...)", Template: "(and x ...)"}}}
		if n%3 > 0 {
			m.Rules = append(m.Rules, impl.Rule{Pattern: "(_ " + text + ")", Template: "(" + text + ")"})
		}
		code := expandAsModel(t, text, []impl.Macro{m})
		if got, _, _ := impl.ExpandForms(text, []impl.Macro{m}); code != impl.ExpandOk && got != "" {
			t.Errorf("ExpandForms(%q): %q, %d", text, got, code)
		}
		if impl.IsCore(text) {
			if l, code := impl.ReadData(text); code != impl.ReadOk || len(l) > 0 && l[0].Kind == impl.DatumDotted {
				t.Errorf("IsCore(%q) is true", text)
			}
		}
		impl.ApplyMacro(m, "(m "+text+")")
		if impl.IsKeyword(text) != slices.Contains(keywords, text) {
			t.Errorf("IsKeyword(%q) is wrong", text)
		}
	}
}

// spareMacros gives macros with room behind every list, and things there that nobody may read, write or hand out.
func spareMacros(l []impl.Macro) []impl.Macro {
	out := make([]impl.Macro, 0, len(l)+2)
	for _, m := range l {
		literals := append(slices.Clone(m.Literals), "behind", "...")
		rules := append(slices.Clone(m.Rules), impl.Rule{Pattern: "(", Template: ")"}, impl.Rule{Pattern: "(_ x ...)", Template: "behind"})
		out = append(out, impl.Macro{Name: m.Name, Literals: literals[:len(m.Literals)], Rules: rules[:len(m.Rules)]})
	}
	behind := append(out, impl.Macro{Name: "behind", Rules: []impl.Rule{{Pattern: "(_)", Template: "1"}}}, impl.Macro{Name: "if"})
	return behind[:len(l)]
}

// whole tells all that macros hold, what is behind their lengths too.
func whole(l []impl.Macro) string {
	out := ""
	for _, m := range l[:cap(l)] {
		out += fmt.Sprint(m.Name, " ", m.Literals[:cap(m.Literals)], " ", m.Rules[:cap(m.Rules)], "\n")
	}
	return out
}

func TestMacrosAreNotWritten(t *testing.T) {
	given := []impl.Macro{twice, swap, never, count}
	other := macroOf("swap", "a b", "(_ x)", "(f x)", "(_ y)", "1", "(_ z)", "2")
	texts := []string{"", "1", "(twice 1)", "(behind)", "(swap 1 2)", "(swap behind 2)", "(never)", "(if)", "(", ones("count", 200), syntaxText(other) + "(swap 1)", syntaxText(double) + "(double 1 2)", syntaxText(double) + syntaxText(other) + "(if)"}
	for _, text := range texts {
		l := spareMacros(given)
		before := whole(l)
		expandAsModel(t, text, l)
		for _, m := range l {
			impl.GoodMacro(m)
			impl.ApplyMacro(m, text)
			impl.ApplyMacro(m, "(m 1 => 2)")
		}
		if whole(l) != before {
			t.Fatalf("%q: macros were written into: %s", text, whole(l))
		}
	}
	for _, m := range wrongMacros()[:20] {
		l := spareMacros([]impl.Macro{m})
		before := whole(l)
		impl.GoodMacro(l[0])
		impl.ApplyMacro(l[0], "(m 1)")
		impl.ExpandForms("(m 1)", l)
		if whole(l) != before {
			t.Fatalf("%s was written into", short(before))
		}
	}
}

// scribble writes over all that macros hold, and behind it as far as there is room.
func scribble(l []impl.Macro) {
	for at := range l {
		for n := range l[at].Literals {
			l[at].Literals[n] = "scribble"
		}
		for n := range l[at].Rules {
			l[at].Rules[n] = impl.Rule{Pattern: "scribble", Template: "scribble"}
		}
		_ = append(l[at].Literals, "scribble", "scribble")
		_ = append(l[at].Rules, impl.Rule{Pattern: "scribble"}, impl.Rule{Pattern: "scribble"})
		l[at].Name = "scribble"
	}
	_ = append(l, impl.Macro{Name: "scribble"})
}

// What is answered is new memory: neither an argument's, nor another answer's, nor another list's of the answer.
func TestMacrosAnsweredAreNew(t *testing.T) {
	other := macroOf("swap", "a b", "(_ x)", "(f x)", "(_ y)", "1", "(_ z)", "2")
	for _, text := range []string{"1", syntaxText(other), syntaxText(double) + syntaxText(other) + syntaxText(macroOf("k", "a b", "(_)", "1"))} {
		given := spareMacros([]impl.Macro{twice, swap, never})
		before := whole(given)
		first, want, _ := modelExpand(text, given)
		text1, got, _ := impl.ExpandForms(text, given)
		_, second, _ := impl.ExpandForms(text, given)
		if text1 != first || !sameMacros(got, want) {
			t.Errorf("ExpandForms(%q): %q, %v", text, text1, got)
		}
		scribble(second)
		if whole(given) != before || !sameMacros(got, want) {
			t.Errorf("%q: an answer shares memory with an argument, or with another one", text)
		}
		for at := range got {
			scribble(got[at : at+1 : at+1])
			if !sameMacros(got[at+1:], want[at+1:]) {
				t.Errorf("%q: the lists of one answer share memory", text)
			}
		}
		scribble(given)
	}
}

// The greatest texts and macros are answered in good time.
func TestFormsInGoodTime(t *testing.T) {
	d := &dice{state: 83}
	heavy := d.num(600, 600)
	inTime(t, 60*time.Second, func() {
		var macros []impl.Macro
		for at := range 20 {
			m := impl.Macro{Name: fmt.Sprint("m", at)}
			for range 10 {
				m.Rules = append(m.Rules, impl.Rule{Pattern: "(_ " + heavy + " x ...)", Template: "(x ... " + heavy + ")"})
			}
			macros = append(macros, m)
		}
		expandsWith(t, "1", macros, "1")
		all := "(_" + strings.Repeat(" x ...", 100) + ")"
		impl.ApplyMacro(macroOf("m", "", "(_ x ...)", all), ones("m", 290))
		impl.ApplyMacro(macroOf("m", "", "(_ y x ...)", "((x "+strings.Repeat("y ", 290)+") ...)"), "(m ("+strings.Repeat("1 ", 140)+")"+strings.Repeat(" 2", 140)+")")
		copies := macroOf("k", "", "(_ x)", "(k2 "+strings.Repeat("x ", 290)+")")
		back := macroOf("k2", "", "(_ x y ...)", "(k x)")
		expandFails(t, "(k "+heavy+")", []impl.Macro{copies, back}, impl.ExpandMany)
		for _, part := range append([]string{"(", ")", "'", "(and ", "(let* ((x 1)) ", "(cond (1) ", "(m", "a ", ";", "\xff"}, keywords...) {
			for _, many := range []int{1, 20, 25, 100, 300, 1 << 18} {
				text := strings.Repeat(part, many)
				impl.IsKeyword(text)
				impl.IsCore(text)
				impl.ExpandForms(text+strings.Repeat(")", many), []impl.Macro{twice, double})
				impl.ApplyMacro(double, text)
			}
		}
	})
}
