package tests

import (
	"fmt"
	"slices"
	"strings"
	"testing"

	"loop.example/g00201/impl"
)

// scribe writes forms that mostly do something: it knows of which kind (n, l, b, f, or - for any) its names are.
type scribe struct {
	*dice
	names []string
	kinds string
}

func (s *scribe) pick(texts ...string) string { return texts[s.below(len(texts))] }

// simple is a constant or a name.
func (s *scribe) simple(kind byte) string {
	if len(s.names) > 0 && s.below(2) == 0 {
		for range 4 {
			if at := s.below(len(s.names)); s.kinds[at] == kind || kind == '-' {
				return s.names[at]
			}
		}
	}
	switch kind {
	case 'n':
		return s.pick("0", "1", "2", "3", "-1", "7", "1/2", "-3/4", "5/3", "10", "99999999999", nines(20))
	case 'l':
		return s.pick("'()", "'(1 2 3)", "(list)", "'((1) (2 . 3) \"a\")", "'(1 . 2)", "'(a \"b\\\\\\n\" #t)", "'(quote (x))")
	case 'b':
		return s.pick("#t", "#f")
	case 'f':
		return s.pick("car", "+", "list", "(lambda (x) x)", "(lambda x x)", "(lambda (x . y) y)", "call/cc", "k0", "not", "display", "cons", "(lambda () 1)")
	}
	return s.pick("'a", "\"s\"", "\"\\\"q\\\\\"", "(newline)", "k0", "x", "y", "car", s.pick("1", "nowhere"))
}

// args are forms with blanks ahead; now and then one more or one less.
func (s *scribe) args(kinds string, deep int) string {
	if s.below(25) == 0 {
		kinds += "-"
	}
	if s.below(25) == 0 && len(kinds) > 0 {
		kinds = kinds[1:]
	}
	text := ""
	for at := range len(kinds) {
		text += " " + s.form(kinds[at], deep)
	}
	return text
}

func (s *scribe) form(kind byte, deep int) string {
	if s.below(25) == 0 {
		kind = "nlbf-"[s.below(5)]
	}
	if deep == 0 || s.below(5) == 0 {
		return s.simple(kind)
	}
	if s.below(2) == 0 {
		return s.control(kind, deep-1)
	}
	return "(" + s.operation(kind, deep-1) + ")"
}

func (s *scribe) operation(kind byte, deep int) string {
	several := strings.Repeat("n", s.below(4))
	switch kind {
	case 'n':
		name := s.pick("+", "-", "*", "/", "quotient", "remainder", "floor", "length", "car")
		kinds := map[string]string{"quotient": "nn", "remainder": "nn", "floor": "n", "length": "l", "car": "l"}
		if k, ok := kinds[name]; ok {
			return name + s.args(k, deep)
		}
		return name + s.args("n"+several, deep)
	case 'l':
		name := s.pick("cons", "list", "cdr", "append", "reverse")
		return name + s.args(map[string]string{"cons": "-l", "list": several + "-", "cdr": "l", "append": "ll", "reverse": "l"}[name], deep)
	case 'b':
		if s.below(2) == 0 {
			return s.pick("=", "<", ">", "<=", ">=") + s.args("n"+several, deep)
		}
		if s.below(2) == 0 {
			return s.pick("eq?", "equal?") + s.args("--", deep)
		}
		return s.pick("null?", "pair?", "number?", "symbol?", "string?", "boolean?", "procedure?", "not") + s.args("-", deep)
	case 'f':
		return "lambda " + s.pick("()", "(a)", "(a b)", "(a . b)", "a") + " " + s.with("a", '-', func() string { return s.form('-', deep) })
	}
	return s.pick("display", "write", "car", "cdr") + s.args("-", deep)
}

// with writes something in which a name stands.
func (s *scribe) with(name string, kind byte, write func() string) string {
	names, kinds := s.names, s.kinds
	s.names, s.kinds = append(slices.Clone(names), name), kinds+string(kind)
	text := write()
	s.names, s.kinds = names, kinds
	return text
}

func (s *scribe) control(kind byte, deep int) string {
	in := func(kind byte) string { return s.form(kind, deep) }
	name := s.pick("x", "y", "z", "g0", "g1")
	inner := func() string { return in(kind) }
	of := "nlb"[s.below(3)]
	switch s.below(15) {
	case 0, 1:
		return fmt.Sprintf("(if %s %s %s)", in('b'), in(kind), in(kind))
	case 2:
		return fmt.Sprintf("(let ((%s %s)) %s)", name, in(of), s.with(name, of, inner))
	case 3:
		return fmt.Sprintf("(begin %s %s)", in('-'), in(kind))
	case 4:
		return fmt.Sprintf("((lambda (%s) %s) %s)", name, s.with(name, of, inner), in(of))
	case 5:
		return fmt.Sprintf("(call/cc (lambda (k0) %s))", in(kind))
	case 6:
		return fmt.Sprintf("(+ 1 (k0 %s))", in(kind))
	case 7:
		return fmt.Sprintf("(begin (set! %s %s) %s)", name, in('-'), in(kind))
	case 8:
		return fmt.Sprintf("(begin (define %s %s) %s)", name, in(of), s.with(name, of, inner))
	case 9:
		return fmt.Sprintf("(apply %s %s)", in('f'), in('l'))
	case 10:
		return fmt.Sprintf("(let loop ((i %d) (acc %s)) (if (= i 0) acc (loop (- i 1) %s)))", s.below(4), in(kind), s.with("acc", kind, inner))
	case 11:
		return fmt.Sprintf("(call/cc (lambda (k) (begin (set! kept k) %s)))", in(kind))
	case 12:
		return fmt.Sprintf("(if (and (procedure? kept) (< turns 3)) (begin (set! turns (+ turns 1)) (kept %s)) %s)", in('-'), in(kind))
	case 13:
		return fmt.Sprintf("(begin (%s %s) %s)", s.pick("display", "write"), in('-'), in(kind))
	}
	return fmt.Sprintf("(%s%s)", in('f'), s.args(s.pick("", "n", "l", "nn"), deep))
}

// program is a text of some forms.
func (s *scribe) program() string {
	text := "(define kept #f) (define turns 0) (define g0 5) (define k0 list) (define x 1) (define y \"y\")"
	for range 1 + s.below(5) {
		if s.below(4) == 0 {
			text += fmt.Sprintf(" (define %s %s)", s.pick("g0", "g1", "x"), s.form("nlbf-"[s.below(5)], 2))
		} else {
			text += " " + s.form("nlbf-"[s.below(5)], 1+s.below(5))
		}
	}
	return text
}

// What random texts come to is what the model comes to; more fuel changes nothing, and a step less is too few.
func TestRunsAreThoseOfTheModel(t *testing.T) {
	s := &scribe{dice: &dice{state: 5}, names: []string{"g0", "turns"}, kinds: "nn"}
	codes := [3]int{}
	for range 3000 {
		text := s.program()
		want := runAsModel(t, text, impl.MaxFuel)
		codes[want.code]++
		if want.code != impl.RunOk {
			runAsModel(t, text, s.below(impl.MaxFuel))
			continue
		}
		if got := runText(text, want.steps); got != want {
			t.Errorf("%s\nwith fuel %d: %+v; wanted %+v", text, want.steps, got, want)
		}
		runsOut(t, text, s.below(want.steps))
		runsOut(t, text, want.steps-1)
		if got := runText(text, want.steps+s.below(impl.MaxFuel-want.steps+1)); got != want {
			t.Errorf("%s\nwith more fuel than %d: %+v; wanted %+v", text, want.steps, got, want)
		}
		if t.Failed() {
			return
		}
	}
	if codes[impl.RunOk] < 2500 {
		t.Errorf("too few texts run: %v", codes)
	}
}
