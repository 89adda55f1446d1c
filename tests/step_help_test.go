package tests

import (
	"math/big"
	"slices"
	"strings"
	"testing"

	"loop.example/g00201/impl"
)

// The model of the machine works by closures: what is to be done then is a function. Values are numbers (*big.Rat),
// word, string, bool, *cell, *doer, the nothing that an empty list is, and the nothing that none is.
type (
	word    string
	nothing string

	cell struct {
		first  any
		second any
	}

	doer struct {
		call func(args []any, then *done) jump
	}

	// done is what a value is given to, and how many things are to be done in all.
	done struct {
		deep int
		take func(v any) jump
	}

	// jump is what is next: so the model does not grow, however long it goes on.
	jump func() jump

	scope struct {
		vars   map[string]any
		around *scope
	}

	// modelFault and modelOut end a form and the run.
	modelFault string
	modelOut   struct{}

	stepModel struct {
		steps  int
		fuel   int
		pairs  int
		out    string
		value  any
		global *scope
		tools  map[string]*doer
	}

	ran struct {
		told  string
		steps int
		last  string
		code  int
	}
)

const (
	emptyValue nothing = "()"
	noneValue  nothing = "#<none>"
)

// modelRun is what a text should come to.
func modelRun(text string, fuel int) (r ran) {
	core, _, code := impl.ExpandForms(text, nil)
	if code != impl.ExpandOk || fuel < 0 || fuel > 20000 {
		return ran{code: impl.RunForm}
	}
	nodes, _ := impl.ReadData(core)
	m := &stepModel{fuel: fuel, global: &scope{vars: map[string]any{}}}
	m.tools = m.makeTools()
	defer func() {
		if e := recover(); e == (modelOut{}) {
			r = ran{code: impl.RunOut}
		} else if e != nil {
			panic(e)
		}
	}()
	for _, f := range treesOf(nodes) {
		r.last = m.do(f)
	}
	r.told, r.steps = m.out, m.steps
	return r
}

// do does one form and tells what it comes to.
func (m *stepModel) do(f tree) (text string) {
	defer func() {
		e := recover()
		if bad, ok := e.(modelFault); ok {
			text = "error " + string(bad)
			m.tell(text + "\n")
		} else if e != nil {
			panic(e)
		}
	}()
	end := &done{take: func(v any) jump {
		m.value = v
		return nil
	}}
	for next := m.eval(f, m.global, end); next != nil; {
		next = next()
	}
	text = m.show(m.value, false)
	if m.value != noneValue {
		m.tell(text + "\n")
	}
	return text
}

func (m *stepModel) tell(text string) {
	m.out += text
	if len(m.out) > 2000 {
		panic(modelOut{})
	}
}

func (m *stepModel) step() {
	m.steps++
	if m.steps > m.fuel {
		panic(modelOut{})
	}
}

// waits is one thing more to be done.
func (m *stepModel) waits(then *done, take func(v any) jump) *done {
	if then.deep+1 > 2000 {
		panic(modelOut{})
	}
	return &done{deep: then.deep + 1, take: take}
}

func (m *stepModel) give(v any, then *done) jump {
	if then.deep > 0 {
		m.step()
	}
	return then.take(v)
}

func (m *stepModel) eval(f tree, in *scope, then *done) jump {
	return func() jump {
		m.step()
		if f.kind == impl.DatumSym {
			return m.give(m.find(f.text, in), then)
		}
		if f.kind != impl.DatumList {
			return m.give(m.datum(f), then)
		}
		word := ""
		if f.parts[0].kind == impl.DatumSym {
			word = f.parts[0].text
		}
		return m.form(word, f.parts[1:], f, in, then)
	}
}

func (m *stepModel) form(word string, p []tree, f tree, in *scope, then *done) jump {
	switch word {
	case "quote":
		return m.give(m.datum(p[0]), then)
	case "if":
		return m.eval(p[0], in, m.waits(then, func(v any) jump {
			if v == false {
				return m.eval(p[2], in, then)
			}
			return m.eval(p[1], in, then)
		}))
	case "define":
		return m.eval(p[1], in, m.waits(then, func(v any) jump {
			in.vars[p[0].text] = v
			return m.give(noneValue, then)
		}))
	case "set!":
		return m.eval(p[1], in, m.waits(then, func(v any) jump {
			owner := in.owner(p[0].text)
			if owner == nil {
				panic(modelFault("unbound"))
			}
			owner.vars[p[0].text] = v
			return m.give(noneValue, then)
		}))
	case "lambda":
		return m.give(m.lambda(p[0], p[1], in), then)
	case "begin":
		return m.row(p, in, then)
	}
	return m.parts(f.parts, nil, in, then)
}

func (m *stepModel) row(p []tree, in *scope, then *done) jump {
	if len(p) == 1 {
		return m.eval(p[0], in, then)
	}
	return m.eval(p[0], in, m.waits(then, func(any) jump { return m.row(p[1:], in, then) }))
}

func (m *stepModel) parts(p []tree, there []any, in *scope, then *done) jump {
	return m.eval(p[0], in, m.waits(then, func(v any) jump {
		now := append(slices.Clone(there), v)
		if len(p) > 1 {
			return m.parts(p[1:], now, in, then)
		}
		called, ok := now[0].(*doer)
		if !ok {
			panic(modelFault("procedure"))
		}
		return called.call(now[1:], then)
	}))
}

func (s *scope) owner(name string) *scope {
	for ; s != nil; s = s.around {
		if _, ok := s.vars[name]; ok {
			return s
		}
	}
	return nil
}

func (m *stepModel) find(name string, in *scope) any {
	if owner := in.owner(name); owner != nil {
		return owner.vars[name]
	}
	if tool, ok := m.tools[name]; ok {
		return tool
	}
	panic(modelFault("unbound"))
}

func (m *stepModel) lambda(p tree, body tree, in *scope) *doer {
	names, rest := p.parts, ""
	if p.kind == impl.DatumSym {
		rest = p.text
	} else if p.kind == impl.DatumDotted {
		names, rest = p.parts[:len(p.parts)-1], p.parts[len(p.parts)-1].text
	}
	return &doer{func(args []any, then *done) jump {
		if len(args) < len(names) || rest == "" && len(args) > len(names) {
			panic(modelFault("arity"))
		}
		inner := &scope{vars: map[string]any{}, around: in}
		for at, name := range names {
			inner.vars[name.text] = args[at]
		}
		if rest != "" {
			inner.vars[rest] = m.list(args[len(names):], emptyValue)
		}
		return m.eval(body, inner, then)
	}}
}

func (m *stepModel) list(l []any, end any) any {
	for at := len(l) - 1; at >= 0; at-- {
		m.pairs++
		if m.pairs > 20000 {
			panic(modelOut{})
		}
		end = &cell{l[at], end}
	}
	return end
}

func (m *stepModel) datum(d tree) any {
	switch d.kind {
	case impl.DatumNum:
		n, _ := new(big.Rat).SetString(d.text)
		return n
	case impl.DatumSym:
		return word(d.text)
	case impl.DatumStr:
		return d.text
	case impl.DatumBool:
		return d.text == "t"
	}
	var parts []any
	for _, part := range d.parts {
		parts = append(parts, m.datum(part))
	}
	if d.kind == impl.DatumDotted {
		return m.list(parts[:len(parts)-1], parts[len(parts)-1])
	}
	return m.list(parts, emptyValue)
}

// show is a value's text; one that is too long by far ends the run at once.
func (m *stepModel) show(v any, raw bool) string {
	switch v := v.(type) {
	case *big.Rat:
		return v.RatString()
	case word:
		return string(v)
	case string:
		if raw {
			return v
		}
		return `"` + strings.NewReplacer(`"`, `\"`, `\`, `\\`, "\n", `\n`).Replace(v) + `"`
	case bool:
		return map[bool]string{true: "#t", false: "#f"}[v]
	case *cell:
		text := m.show(v.first, raw)
		for next, ok := v.second.(*cell); ok; next, ok = v.second.(*cell) {
			text += " " + m.show(next.first, raw)
			v = next
			if len(text) > 2000 {
				panic(modelOut{})
			}
		}
		if v.second != emptyValue {
			text += " . " + m.show(v.second, raw)
		}
		return "(" + text + ")"
	case nothing:
		return string(v)
	}
	return "#<procedure>"
}

func isSame(a any, b any) bool {
	x, isX := a.(*big.Rat)
	y, isY := b.(*big.Rat)
	if isX && isY {
		return x.Cmp(y) == 0
	}
	return a == b
}

// likeness looks at pairs of values, by a pile of those that are to be looked at.
func (m *stepModel) likeness(a any, b any) bool {
	pile := [][2]any{{a, b}}
	for looked := 1; len(pile) > 0; looked++ {
		if looked > 20000 {
			panic(modelOut{})
		}
		top := pile[len(pile)-1]
		pile = pile[:len(pile)-1]
		x, isX := top[0].(*cell)
		y, isY := top[1].(*cell)
		switch {
		case isSame(top[0], top[1]):
		case isX && isY:
			pile = append(pile, [2]any{x.second, y.second}, [2]any{x.first, y.first})
		default:
			return false
		}
	}
	return true
}

func runText(text string, fuel int) ran {
	told, code := impl.RunForms(text, fuel)
	steps, stepsCode := impl.StepsOf(text, fuel)
	last, lastCode := impl.ValueOf(text, fuel)
	if stepsCode != code || lastCode != code {
		return ran{told: "codes differ", code: -1}
	}
	return ran{told, steps, last, code}
}

// runAsModel asks for what the model comes to, and gives it.
func runAsModel(t *testing.T, text string, fuel int) ran {
	t.Helper()
	got, want := runText(text, fuel), modelRun(text, fuel)
	if got != want {
		t.Errorf("%s\nwith fuel %d: %+v; wanted %+v", text, fuel, got, want)
	}
	return want
}

// tells asks for what is told in all.
func tells(t *testing.T, text string, want string) {
	t.Helper()
	got := runText(text, impl.MaxFuel)
	if got.told != want || got.code != impl.RunOk {
		t.Errorf("%s: %q, %d; wanted %q", short(text), got.told, got.code, want)
	}
}

// gives asks for the last form's value.
func gives(t *testing.T, text string, want string) {
	t.Helper()
	got, code := impl.ValueOf(text, impl.MaxFuel)
	if got != want || code != impl.RunOk {
		t.Errorf("%s: %q, %d; wanted %q", short(text), short(got), code, short(want))
	}
}

// takes asks for just so many steps: fuel for them is enough, and one less is not.
func takes(t *testing.T, text string, steps int) {
	t.Helper()
	if got, code := impl.StepsOf(text, impl.MaxFuel); got != steps || code != impl.RunOk {
		t.Errorf("%s: %d steps, %d; wanted %d", short(text), got, code, steps)
		return
	}
	want := runText(text, impl.MaxFuel)
	for _, fuel := range []int{steps, min(steps+1, impl.MaxFuel)} {
		if got := runText(text, fuel); got != want {
			t.Errorf("%s with fuel %d: %+v; wanted %+v", short(text), fuel, got, want)
		}
	}
	if steps > 0 {
		runsOut(t, text, steps-1)
	}
}

func runsOut(t *testing.T, text string, fuel int) {
	t.Helper()
	if got := runText(text, fuel); got != (ran{code: impl.RunOut}) {
		t.Errorf("%s with fuel %d: %+v; wanted RunOut and nothing", short(text), fuel, got)
	}
}

func isNoRun(t *testing.T, text string, fuel int) {
	t.Helper()
	if got := runText(text, fuel); got != (ran{code: impl.RunForm}) {
		t.Errorf("%s with fuel %d: %+v; wanted RunForm and nothing", short(text), fuel, got)
	}
}
