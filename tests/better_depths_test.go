package tests

import (
	"slices"
	"strconv"
	"strings"
	"testing"

	"loop.example/g00201/impl"
)

// Instructions, and how many values there are ahead of each; - is one that is never come to.
var toldDepths = [][2]string{
	{"stop", "0"}, {"const 1|end|stop", "0 1 0"}, {"name x|end|stop", "0 1 0"}, {"const 1|end|const 2|end|stop", "0 1 0 1 0"},
	// Each with just enough values, and with more where these may be.
	{"const 1|set x|end|stop", "0 1 1 0"}, {"const 1|define x|end|stop", "0 1 1 0"}, {"const 1|drop|stop", "0 1 0"}, {"const 1|const 2|drop|end|stop", "0 1 2 1 0"}, {"const 1|const 2|set x|drop|end|stop", "0 1 2 2 1 0"}, {"const 1|const 2|define x|drop|end|stop", "0 1 2 2 1 0"},
	{"const 1|false 2|stop", "0 1 0"}, {"const 1|const 2|false 3|end|stop", "0 1 2 1 0"}, {"name f|call 0|end|stop", "0 1 1 0"}, {"name f|const 1|call 1|end|stop", "0 1 2 1 0"}, {"name f|const 1|const 2|call 2|end|stop", "0 1 2 3 1 0"}, {"name f|name g|const 1|call 1|call 1|end|stop", "0 1 2 3 2 1 0"}, {"name a|name f|call 0|drop|end|stop", "0 1 2 2 1 0"},
	{"name f|tail 0", "0 1"}, {"name f|const 1|tail 1", "0 1 2"}, {"name f|const 1|const 2|const 3|tail 3", "0 1 2 3 4"}, {"const 1|return", "0 1"},
	{"lambda 3 x|end|stop|const 1|return", "0 1 0 0 1"}, {"const 1|lambda 4 ()|drop|return|name x|return", "0 1 2 1 0 1"}, {"const 1|const 2|lambda 3 x|call 2|end|stop", ""}, {"const 1|const 2|lambda 6 x|call 2|end|stop|stop", "0 1 2 3 1 0 0"},
	// A jump, also over what is never come to.
	{"jump 1|stop", "0 0"}, {"jump 2|const 1|stop", "0 - 0"}, {"const 1|jump 3|drop|return", "0 1 - 1"}, {"stop|const 1|drop|end", "0 - - -"}, {"const 1|return|drop|call 7|jump 100000", "0 1 - - -"}, {"name f|tail 0|stop", "0 1 -"}, {"jump 3|jump 1|false 2|stop", "0 - - 0"}, {"const 1|end|stop|end|end", "0 1 0 - -"},
	// What is come to on two ways.
	{"name a|false 4|const 1|jump 5|const 2|end|stop", "0 1 0 1 0 1 0"}, {"name a|false 3|const 1|end|stop", ""}, {"name a|false 3|stop|stop", "0 1 0 0"}, {"name a|name b|false 4|drop|stop", ""}, {"name a|name b|false 4|jump 4|return", "0 1 2 1 1"}, {"name a|false 4|const 1|return|const 2|const 3|return", ""}, {"name a|false 5|const 1|const 2|jump 6|const 3|return", ""}, {"const 1|jump 3|const 2|end|stop", "0 1 - 1 0"},
	// Jumps backwards, with as many values, with more each time, with fewer, into themselves.
	{"jump 0", "0"}, {"const 1|drop|jump 0", "0 1 0"}, {"const 1|jump 0", ""}, {"const 1|jump 1", "0 1"}, {"const 1|const 2|jump 1", ""}, {"const 1|const 2|drop|jump 1", "0 1 2 1"}, {"const 1|const 2|const 3|drop|drop|jump 1", "0 1 2 3 2 1"}, {"const 1|const 2|drop|drop|jump 1", ""}, {"const 1|const 2|drop|drop|jump 0", "0 1 2 1 0"}, {"name a|false 0|stop", "0 1 0"}, {"name a|false 1|stop", ""}, {"const 1|name a|false 1|return", "0 1 2 1"}, {"const 1|end|jump 0", "0 1 0"}, {"const 1|end|jump 2", "0 1 0"}, {"const 1|jump 3|stop|jump 1", "0 1 - 1"}, {"name f|const 1|call 1|drop|jump 0", "0 1 2 1 0"}, {"name f|const 1|call 1|jump 0", ""},
	// Lambdas: bodies of their own, one body for two, one within another, one that is a form too.
	{"lambda 5 ()|drop|lambda 5 ()|end|stop|const 1|return", "0 1 0 1 0 0 1"}, {"lambda 5 ()|lambda 5 ()|call 1|end|stop|const 1|return", "0 1 2 1 0 0 1"}, {"lambda 3 ()|end|stop|lambda 5 ()|return|name x|return", "0 1 0 0 1 0 1"}, {"lambda 3 ()|end|stop|lambda 3 ()|return", "0 1 0 0 1"}, {"lambda 0 ()|end|stop", "0 1 0"}, {"lambda 1 ()|end|stop", ""}, {"lambda 2 ()|end|stop", "0 1 0"}, {"const 1|lambda 1 ()|return", ""}, {"const 1|lambda 0 ()|drop|return", "0 1 2 1"}, {"lambda 4 ()|end|stop|const 1|const 2|return", "0 1 0 - 0 1"}, {"lambda 3 ()|end|jump 3|const 1|return", "0 1 0 0 1"}, {"lambda 4 ()|end|const 1|jump 4|const 1|return", ""},
	{"lambda 4 ()|false 6|const 1|return|name a|false 2|const 2|return", "0 1 0 1 0 1 0 1"}, {"lambda 3 ()|end|stop|const 1|end|const 2|return", "0 1 0 0 1 0 1"}, {"lambda 3 ()|end|stop|name a|false 7|const 1|return|const 2|return", "0 1 0 0 1 0 1 0 1"}, {"lambda 3 ()|end|stop|name a|false 7|const 1|return|return|stop", ""}, {"lambda 3 ()|end|stop|drop|stop", ""}, {"lambda 3 ()|end|stop|const 1|const 2|return", ""},
	// Ways that come together from a form and a body.
	{"lambda 2 ()|drop|const 1|end|stop", "0 1 0 1 0"}, {"lambda 1 ()|const 1|end|stop", ""},
	// One value too few.
	{"set x|end|stop", ""}, {"define x|end|stop", ""}, {"drop|stop", ""}, {"false 1|stop", ""}, {"call 0|end|stop", ""}, {"name f|call 1|end|stop", ""}, {"name f|const 1|call 2|end|stop", ""}, {"tail 0", ""}, {"name f|tail 1", ""}, {"name f|const 1|tail 2", ""}, {"return", ""}, {"end|stop", ""}, {"const 1|drop|drop|stop", ""}, {"const 1|end|drop|stop", ""}, {"const 1|end|end|stop", ""}, {"const 1|call 100000|end|stop", ""}, {"const 1|drop|call 0|end|stop", ""},
	// One value too many.
	{"const 1|name f|tail 0", ""}, {"const 1|name f|const 2|tail 1", ""}, {"const 1|const 2|return", ""}, {"const 1|const 2|end|stop", ""}, {"const 1|stop", ""}, {"const 1|const 2|stop", ""}, {"const 1|const 2|const 3|end|stop", ""}, {"name f|name g|name h|tail 0", ""},
	// Behind the last instruction there is none.
	{"const 1", ""}, {"const 1|end", ""}, {"const 1|drop", ""}, {"name x", ""}, {"const 1|set x", ""}, {"const 1|define x", ""}, {"jump 1", ""}, {"jump 100000", ""}, {"const 1|false 2", ""}, {"const 1|false 0", ""}, {"const 1|false 3|stop", ""}, {"name f|call 0", ""}, {"lambda 1 ()", ""}, {"lambda 0 ()", ""}, {"lambda 3 ()|end|stop", ""}, {"lambda 100000 ()|end|stop", ""}, {"jump 2|stop", ""}, {"stop|jump 7|lambda 9 ()|false 9", "0 - - -"},
}

func TestToldDepths(t *testing.T) {
	for _, row := range toldDepths {
		if row[1] == "" {
			hasNoDepths(t, written(row[0]))
		} else {
			hasDepths(t, written(row[0]), row[1])
		}
	}
	hasNoDepths(t, nil)
	hasNoDepths(t, []impl.Instr{})
}

// What is not asked of an instruction changes nothing: its Text, and its A where that is no place and no number.
func TestDepthsOfOtherFields(t *testing.T) {
	for _, row := range toldDepths {
		l := written(row[0])
		for at := range l {
			l[at].Text = strings.Repeat("\x00\xff) (", 300)
			if !slices.Contains([]int{impl.OpJump, impl.OpFalse, impl.OpLambda, impl.OpCall, impl.OpTail}, l[at].Op) {
				l[at].A = 100000 - at
			}
		}
		if row[1] == "" {
			hasNoDepths(t, l)
		} else {
			hasDepths(t, l, row[1])
		}
	}
}

// Every list of up to four instructions that go to each other's places.
func TestDepthsOfSmallCode(t *testing.T) {
	t.Parallel()
	var all []impl.Instr
	for _, op := range []int{impl.OpConst, impl.OpSet, impl.OpDrop, impl.OpReturn, impl.OpEnd, impl.OpStop} {
		all = append(all, impl.Instr{Op: op})
	}
	for a := range 5 {
		all = append(all, impl.Instr{Op: impl.OpJump, A: a}, impl.Instr{Op: impl.OpFalse, A: a}, impl.Instr{Op: impl.OpLambda, A: a})
	}
	for a := range 3 {
		all = append(all, impl.Instr{Op: impl.OpCall, A: a}, impl.Instr{Op: impl.OpTail, A: a})
	}
	told, none := 0, 0
	for many := range 5 {
		l := make([]impl.Instr, many)
		var each func(at int)
		each = func(at int) {
			if at < many {
				for _, l[at] = range all {
					each(at + 1)
				}
			} else if depthsAsModel(t, l) {
				told++
			} else {
				none++
			}
		}
		each(0)
	}
	if told < 10000 || none < 10000 {
		t.Errorf("%d have depths, %d have not", told, none)
	}
}

// As many instructions as there may be: the same is told of the last ones.
func TestDepthsOfMuchCode(t *testing.T) {
	value := impl.Instr{Op: impl.OpConst, Text: "1"}
	drop := impl.Instr{Op: impl.OpDrop}
	for _, many := range []int{1, 2, 100, 1499} {
		l := slices.Concat(slices.Repeat([]impl.Instr{value}, many), slices.Repeat([]impl.Instr{drop}, many), []impl.Instr{{Op: impl.OpStop}})
		want := ""
		for n := range many {
			want += strconv.Itoa(n) + " "
		}
		for n := range many {
			want += strconv.Itoa(many-n) + " "
		}
		hasDepths(t, l, want+"0")
		hasNoDepths(t, l[1:])
		hasNoDepths(t, l[:len(l)-1])
	}
	l := append(slices.Repeat([]impl.Instr{value}, impl.MaxCode-2), impl.Instr{Op: impl.OpCall, A: impl.MaxCode - 3}, impl.Instr{Op: impl.OpReturn})
	if got, ok := impl.DepthsOf(l); !ok || got[impl.MaxCode-2] != impl.MaxCode-2 || got[impl.MaxCode-1] != 1 {
		t.Errorf("a call of %d values: %v, %v", impl.MaxCode-2, short(depthsText(got)), ok)
	}
	depthsAsModel(t, l)
	l = append(slices.Repeat([]impl.Instr{value}, impl.MaxCode-1), impl.Instr{Op: impl.OpTail, A: impl.MaxCode - 2})
	depthsAsModel(t, l)
	jumps := make([]impl.Instr, impl.MaxCode)
	for at := range jumps {
		jumps[at] = impl.Instr{Op: impl.OpJump, A: (at + 1) % impl.MaxCode}
	}
	hasDepths(t, jumps, strings.TrimSpace(strings.Repeat("0 ", impl.MaxCode)))
	bodies := slices.Repeat([]impl.Instr{{Op: impl.OpLambda, A: impl.MaxCode - 1}, {Op: impl.OpDrop}}, impl.MaxCode/2-1)
	bodies = append(bodies, impl.Instr{Op: impl.OpStop}, impl.Instr{Op: impl.OpStop})
	hasDepths(t, bodies, strings.Repeat("0 1 ", impl.MaxCode/2-1)+"0 0")
	hasNoDepths(t, bodies[:impl.MaxCode-1])
	for _, good := range [][]impl.Instr{l, jumps, bodies} {
		if _, ok := impl.DepthsOf(good); !ok {
			t.Errorf("%d instructions have no depths", len(good))
		}
		hasNoDepths(t, append(slices.Clone(good), impl.Instr{Op: impl.OpStop}))
	}
}

// runsAsDeep does the code of a text, and asks ahead of each instruction for just as many values as are told for it, and
// for each place that is gone back to, less the one that is brought there.
func runsAsDeep(t *testing.T, text string) int {
	t.Helper()
	l, _ := impl.CompileForms(text)
	depths, ok := impl.DepthsOf(l)
	if !ok {
		t.Errorf("%s has no depths", short(text))
		return 0
	}
	m := newCodeModel(l, impl.MaxFuel)
	defer func() {
		if e := recover(); e != nil && e != (modelOut{}) {
			t.Errorf("%s: %v", short(text), e)
		}
	}()
	for more := true; more; more = m.once() {
		want := depths[m.state.at]
		for _, r := range m.state.returns {
			want += depths[r.at] - 1
		}
		if depths[m.state.at] < 0 || len(m.state.values) != want {
			t.Errorf("%s: %d values ahead of %d, which has %d: wanted %d", short(text), len(m.state.values), m.state.at, depths[m.state.at], want)
			break
		}
	}
	return m.done
}

// Compiled code has depths, each instruction is come to, a form has one value in the end, and a body one when it goes
// back.
func compiledHasDepths(t *testing.T, text string) {
	t.Helper()
	l, code := impl.CompileForms(text)
	if code != impl.RunOk {
		return
	}
	depths, ok := impl.DepthsOf(l)
	if !ok || len(depths) != len(l) {
		t.Errorf("DepthsOf of %s: %v, %v", text, depths, ok)
		return
	}
	for at, i := range l {
		want := map[int]int{impl.OpEnd: 1, impl.OpReturn: 1, impl.OpStop: 0, impl.OpTail: i.A + 1}
		if deep, just := want[i.Op]; depths[at] < 0 || just && depths[at] != deep {
			t.Errorf("%s: %d values ahead of %d, %v", text, depths[at], at, i)
		}
	}
	depthsAsModel(t, l)
}

func TestCompiledCodeHasDepths(t *testing.T) {
	t.Parallel()
	for _, row := range compiledForms {
		compiledHasDepths(t, row[0])
	}
	for _, text := range append(drawnCore(1409, 5000), expandedPrograms(1423, 2000)...) {
		compiledHasDepths(t, text)
		if t.Failed() {
			return
		}
	}
	for _, text := range []string{strings.Repeat("1 ", impl.MaxNodes), "(f " + strings.Repeat("x ", impl.MaxNodes-2) + ")", "(lambda x (begin " + strings.Repeat("1 ", impl.MaxNodes-5) + "))"} {
		compiledHasDepths(t, text)
	}
}

// What is told is what there is when code is done.
func TestDepthsAreThoseOfRuns(t *testing.T) {
	t.Parallel()
	many := 0
	for _, rows := range [][][2]string{toldForms, toldNames, toldCalls, toldJumps, codeJumps} {
		for _, row := range rows {
			many += runsAsDeep(t, row[0])
		}
	}
	for _, text := range append(expandedPrograms(1427, 1500), drawnCore(1429, 2000)...) {
		if _, code := impl.CompileForms(text); code == impl.RunOk {
			many += runsAsDeep(t, text)
		}
	}
	if many < 50000 {
		t.Errorf("only %d instructions were done", many)
	}
}

// Code in which some instruction is another one, goes elsewhere, is not there, or is there twice.
func TestDepthsOfChangedCode(t *testing.T) {
	t.Parallel()
	d := &dice{state: 1433}
	told, none := 0, 0
	for _, text := range append(drawnCore(1439, 4000), expandedPrograms(1447, 1000)...) {
		l, code := impl.CompileForms(text)
		if code != impl.RunOk {
			continue
		}
		for range 6 {
			changed := slices.Clone(l)
			at := d.below(len(l))
			switch d.below(4) {
			case 0:
				changed[at].Op = 1 + d.below(13)
			case 1:
				changed[at].A = d.below(len(l) + 1)
			case 2:
				changed = slices.Delete(changed, at, at+1)
			default:
				changed = slices.Insert(changed, at, changed[d.below(len(l))])
			}
			if depthsAsModel(t, changed) {
				told++
			} else {
				none++
			}
		}
	}
	if told < 1000 || none < 1000 {
		t.Errorf("%d have depths, %d have not", told, none)
	}
}
