package tests

import (
	"slices"
	"strconv"
	"strings"
	"testing"

	"loop.example/g00201/impl"
)

// opNames are the words by which the tests write instructions, each at its Op.
var opNames = []string{"", "const", "name", "set", "define", "drop", "jump", "false", "lambda", "call", "tail", "return", "end", "stop"}

// written reads instructions as the tests write them: with a | between, each its word, its A where it has one, its Text.
func written(text string) []impl.Instr {
	var out []impl.Instr
	for _, line := range strings.Split(text, "|") {
		word, rest, _ := strings.Cut(strings.TrimSpace(line), " ")
		i := impl.Instr{Op: slices.Index(opNames, word), Text: rest}
		switch word {
		case "jump", "false", "lambda", "call", "tail":
			number, text, _ := strings.Cut(rest, " ")
			i.A, _ = strconv.Atoi(number)
			i.Text = text
		}
		out = append(out, i)
	}
	return out
}

// modelInstr is an instruction of the model: with what goes to a place it tells how far that is, and a lambda its body.
type modelInstr struct {
	impl.Instr
	far  int
	body *tree
}

func plain(op int, a int, text string) []modelInstr {
	return []modelInstr{{Instr: impl.Instr{Op: op, A: a, Text: text}}}
}

// modelCode is what CompileForms should tell: it is laid out as it grows, body for body, as lambdas are met in it.
func modelCode(text string) ([]impl.Instr, int) {
	core, _, code := impl.ExpandForms(text, nil)
	if code != impl.ExpandOk {
		return nil, impl.RunForm
	}
	nodes, _ := impl.ReadData(core)
	var all []modelInstr
	for _, f := range treesOf(nodes) {
		all = slices.Concat(all, modelForm(f, false), plain(impl.OpEnd, 0, ""))
	}
	all = append(all, plain(impl.OpStop, 0, "")...)
	var out []impl.Instr
	for at := 0; at < len(all); at++ {
		i := all[at]
		if i.far > 0 {
			i.A = at + i.far
		}
		if i.body != nil {
			i.A = len(all)
			all = append(all, modelForm(*i.body, true)...)
		}
		out = append(out, i.Instr)
	}
	return out, impl.RunOk
}

func modelForm(f tree, last bool) []modelInstr {
	var behind []modelInstr
	if last {
		behind = plain(impl.OpReturn, 0, "")
	}
	if f.kind == impl.DatumSym {
		return append(plain(impl.OpName, 0, f.text), behind...)
	}
	if f.kind != impl.DatumList {
		return append(plain(impl.OpConst, 0, textOf([]tree{f})), behind...)
	}
	word := ""
	if f.parts[0].kind == impl.DatumSym {
		word = f.parts[0].text
	}
	p := f.parts[1:]
	switch word {
	case "quote":
		return append(plain(impl.OpConst, 0, textOf(p)), behind...)
	case "lambda":
		return append([]modelInstr{{Instr: impl.Instr{Op: impl.OpLambda, Text: textOf(p[:1])}, body: &p[1]}}, behind...)
	case "define":
		return slices.Concat(modelForm(p[1], false), plain(impl.OpDefine, 0, p[0].text), behind)
	case "set!":
		return slices.Concat(modelForm(p[1], false), plain(impl.OpSet, 0, p[0].text), behind)
	case "if":
		return modelIf(p, last)
	case "begin":
		var out []modelInstr
		for _, part := range p[:len(p)-1] {
			out = slices.Concat(out, modelForm(part, false), plain(impl.OpDrop, 0, ""))
		}
		return append(out, modelForm(p[len(p)-1], last)...)
	}
	var out []modelInstr
	for _, part := range f.parts {
		out = append(out, modelForm(part, false)...)
	}
	if last {
		return append(out, plain(impl.OpTail, len(p), "")...)
	}
	return append(out, plain(impl.OpCall, len(p), "")...)
}

func modelIf(p []tree, last bool) []modelInstr {
	test, then, other := modelForm(p[0], false), modelForm(p[1], last), modelForm(p[2], last)
	if !last {
		then = append(then, modelInstr{Instr: impl.Instr{Op: impl.OpJump}, far: len(other) + 1})
	}
	return slices.Concat(test, []modelInstr{{Instr: impl.Instr{Op: impl.OpFalse}, far: len(then) + 1}}, then, other)
}

// codeModel does instructions, with stacks that are lists and are copied whole where call/cc keeps them. Its values
// and primitives are those of the model of steps.
type codeModel struct {
	*stepModel
	code    []impl.Instr
	procs   map[*doer]codeProc
	state   codeState
	done    int
	form    int
	starts  []int
	values  int
	returns int
}

type codeState struct {
	at      int
	in      *scope
	values  []any
	returns []codeReturn
}

type codeReturn struct {
	at int
	in *scope
}

// codeProc is a primitive (tool), a lambda (in, and where its body is), or what call/cc keeps.
type codeProc struct {
	tool *tool
	in   *scope
	body int
	text string
	kept *codeState
}

type coded struct {
	told    string
	done    int
	values  int
	returns int
	code    int
}

// newCodeModel is about to do the first instruction.
func newCodeModel(code []impl.Instr, fuel int) *codeModel {
	global := &scope{vars: map[string]any{}}
	m := &codeModel{stepModel: &stepModel{fuel: fuel, global: global, tools: map[string]*doer{}}, code: code, procs: map[*doer]codeProc{}, starts: []int{0}}
	m.state.in = global
	for at := range tools {
		d := &doer{}
		m.tools[tools[at].name], m.procs[d] = d, codeProc{tool: &tools[at]}
	}
	for at, i := range code {
		if i.Op == impl.OpEnd {
			m.starts = append(m.starts, at+1)
		}
	}
	return m
}

// modelCoded is what a text should come to by code.
func modelCoded(text string, fuel int) (c coded) {
	code, result := modelCode(text)
	if result != impl.RunOk || fuel < 0 || fuel > 20000 {
		return coded{code: impl.RunForm}
	}
	m := newCodeModel(code, fuel)
	defer func() {
		if e := recover(); e == (modelOut{}) {
			c = coded{code: impl.RunOut}
		} else if e != nil {
			panic(e)
		}
	}()
	for m.once() {
	}
	return coded{m.out, m.done, m.values, m.returns, impl.RunOk}
}

// once does one instruction; false behind the last one.
func (m *codeModel) once() (more bool) {
	m.values, m.returns = max(m.values, len(m.state.values)), max(m.returns, len(m.state.returns))
	m.done++
	if m.done > m.fuel || m.values > 2000 || m.returns > 2000 {
		panic(modelOut{})
	}
	defer func() {
		e := recover()
		if bad, ok := e.(modelFault); ok {
			m.next("error " + string(bad) + "\n")
			more = true
		} else if e != nil {
			panic(e)
		}
	}()
	i := m.code[m.state.at]
	m.state.at++
	m.do(i)
	return i.Op != impl.OpStop
}

// next tells what a form came to, and begins the one behind it in the text.
func (m *codeModel) next(text string) {
	m.tell(text)
	m.form++
	m.state = codeState{at: m.starts[m.form], in: m.global}
}

func (m *codeModel) put(v any) {
	m.state.values = append(m.state.values, v)
}

func (m *codeModel) take() any {
	last := len(m.state.values) - 1
	v := m.state.values[last]
	m.state.values = m.state.values[:last]
	return v
}

func (m *codeModel) do(i impl.Instr) {
	switch i.Op {
	case impl.OpConst:
		nodes, _ := impl.ReadData(i.Text)
		m.put(m.datum(treesOf(nodes)[0]))
	case impl.OpName:
		m.put(m.find(i.Text, m.state.in))
	case impl.OpSet:
		v := m.take()
		owner := m.state.in.owner(i.Text)
		if owner == nil {
			panic(modelFault("unbound"))
		}
		owner.vars[i.Text] = v
		m.put(noneValue)
	case impl.OpDefine:
		m.state.in.vars[i.Text] = m.take()
		m.put(noneValue)
	case impl.OpDrop:
		m.take()
	case impl.OpJump:
		m.state.at = i.A
	case impl.OpFalse:
		if m.take() == false {
			m.state.at = i.A
		}
	case impl.OpLambda:
		d := &doer{}
		m.procs[d] = codeProc{in: m.state.in, body: i.A, text: i.Text}
		m.put(d)
	case impl.OpCall, impl.OpTail:
		args := slices.Clone(m.state.values[len(m.state.values)-i.A:])
		m.state.values = m.state.values[:len(m.state.values)-i.A]
		m.apply(m.take(), args, i.Op == impl.OpTail)
	case impl.OpReturn:
		m.back()
	case impl.OpEnd:
		if v := m.take(); v == noneValue {
			m.next("")
		} else {
			m.next(m.show(v, false) + "\n")
		}
	}
}

func (m *codeModel) back() {
	last := len(m.state.returns) - 1
	m.state.at, m.state.in = m.state.returns[last].at, m.state.returns[last].in
	m.state.returns = m.state.returns[:last]
}

func (s codeState) copied() *codeState {
	return &codeState{s.at, s.in, slices.Clone(s.values), slices.Clone(s.returns)}
}

func (m *codeModel) apply(called any, args []any, last bool) {
	d, ok := called.(*doer)
	if !ok {
		panic(modelFault("procedure"))
	}
	p := m.procs[d]
	switch {
	case p.kept != nil:
		if len(args) != 1 {
			panic(modelFault("arity"))
		}
		m.state = *p.kept.copied()
		m.put(args[0])
	case p.tool == nil:
		inner := m.frame(p, args)
		if !last {
			m.state.returns = append(m.state.returns, codeReturn{m.state.at, m.state.in})
		}
		m.state.at, m.state.in = p.body, inner
	default:
		m.primitive(p.tool, args, last)
	}
}

func (m *codeModel) primitive(t *tool, args []any, last bool) {
	t.check(args)
	switch t.name {
	case "apply":
		m.apply(args[0], inList(args[1]), last)
		return
	case "call/cc":
		here := *m
		here.state = *m.state.copied()
		if last {
			here.back()
		}
		d := &doer{}
		m.procs[d] = codeProc{kept: here.state.copied()}
		m.apply(args[0], []any{d}, last)
		return
	}
	m.put(t.does(m.stepModel, args))
	if last {
		m.back()
	}
}

func (m *codeModel) frame(p codeProc, args []any) *scope {
	nodes, _ := impl.ReadData(p.text)
	names := nodes
	if nodes[0].Kind != impl.DatumSym {
		names = nodes[1:]
	}
	many, rest := len(names), nodes[0].Kind != impl.DatumList
	if rest {
		many--
	}
	if len(args) < many || len(args) > many && !rest {
		panic(modelFault("arity"))
	}
	inner := &scope{vars: map[string]any{}, around: p.in}
	for at := range many {
		inner.vars[names[at].Text] = args[at]
	}
	if rest {
		inner.vars[names[many].Text] = m.list(args[many:], emptyValue)
	}
	return inner
}

// codeRun is what the functions tell of a text; they do not tell how many instructions were done.
func codeRun(text string, fuel int) coded {
	told, code := impl.RunByCode(text, fuel)
	values, returns, widthsCode := impl.WidthsOf(text, fuel)
	if widthsCode != code {
		return coded{told: "codes differ", code: -1}
	}
	return coded{told: told, values: values, returns: returns, code: code}
}

// codeAsModel asks for what the model comes to, and gives it.
func codeAsModel(t *testing.T, text string, fuel int) coded {
	t.Helper()
	want := modelCoded(text, fuel)
	seen := want
	seen.done = 0
	if got := codeRun(text, fuel); got != seen {
		t.Errorf("%s\nwith fuel %d: %+v; wanted %+v", text, fuel, got, want)
	}
	return want
}

// codeAsSteps asks for what RunForms tells, where neither runs out, and gives both codes.
func codeAsSteps(t *testing.T, text string, fuel int) (int, int) {
	t.Helper()
	got, code := impl.RunByCode(text, fuel)
	want, stepsCode := impl.RunForms(text, fuel)
	if code != impl.RunOut && stepsCode != impl.RunOut && (got != want || code != stepsCode) {
		t.Errorf("%s\nwith fuel %d: %q, %d; by steps %q, %d", text, fuel, got, code, want, stepsCode)
	}
	return code, stepsCode
}

// codeTells asks for what is told in all, by the model too.
func codeTells(t *testing.T, text string, want string) {
	t.Helper()
	if got := codeRun(text, impl.MaxFuel); got.told != want || got.code != impl.RunOk {
		t.Errorf("%s: %q, %d; wanted %q", short(text), short(got.told), got.code, short(want))
	}
	codeAsModel(t, text, impl.MaxFuel)
	codeAsSteps(t, text, impl.MaxFuel)
}

// codeTakes asks for just so many instructions: fuel for them is enough, and one less is not.
func codeTakes(t *testing.T, text string, many int) {
	t.Helper()
	want := codeRun(text, impl.MaxFuel)
	if want.code != impl.RunOk {
		t.Errorf("%s: %d", short(text), want.code)
		return
	}
	for _, fuel := range []int{many, min(many+1, impl.MaxFuel)} {
		if got := codeRun(text, fuel); got != want {
			t.Errorf("%s with fuel %d: %+v; wanted %+v", short(text), fuel, got, want)
		}
	}
	codeRunsOut(t, text, many-1)
	if got := modelCoded(text, impl.MaxFuel); got.done != many {
		t.Errorf("%s: the model does %d instructions; wanted %d", short(text), got.done, many)
	}
}

func codeRunsOut(t *testing.T, text string, fuel int) {
	t.Helper()
	if got := codeRun(text, fuel); got != (coded{code: impl.RunOut}) {
		t.Errorf("%s with fuel %d: %+v; wanted RunOut and nothing", short(text), fuel, got)
	}
}

func isNoCode(t *testing.T, text string, fuel int) {
	t.Helper()
	if got := codeRun(text, fuel); got != (coded{code: impl.RunForm}) {
		t.Errorf("%s with fuel %d: %+v; wanted RunForm and nothing", short(text), fuel, got)
	}
}

// hasWidths asks for so many values and returns at most.
func hasWidths(t *testing.T, text string, values int, returns int) {
	t.Helper()
	v, r, code := impl.WidthsOf(text, impl.MaxFuel)
	if v != values || r != returns || code != impl.RunOk {
		t.Errorf("%s: %d values, %d returns, %d; wanted %d and %d", short(text), v, r, code, values, returns)
	}
	codeAsModel(t, text, impl.MaxFuel)
}

// comeBack asks for a text of instructions, and for them of it.
func comeBack(t *testing.T, l []impl.Instr) string {
	t.Helper()
	text, ok := impl.CodeText(l)
	if !ok {
		t.Errorf("%d instructions have no text", len(l))
		return ""
	}
	if read, ok := impl.ReadCode(text); !ok || !slices.Equal(read, l) {
		t.Errorf("%q is read as %v, %v; wanted %v", short(text), read, ok, l)
	}
	return text
}

// noCodeText asks for no text.
func noCodeText(t *testing.T, l []impl.Instr) {
	t.Helper()
	if text, ok := impl.CodeText(l); text != "" || ok {
		t.Errorf("CodeText of %d instructions: %q, %v; wanted the zero answer", len(l), short(text), ok)
	}
}

// noCodeRead asks for no instructions.
func noCodeRead(t *testing.T, text string) {
	t.Helper()
	if l, ok := impl.ReadCode(text); len(l) != 0 || ok {
		t.Errorf("ReadCode(%q): %d instructions, %v; wanted the zero answer", short(text), len(l), ok)
	}
}
