package tests

import (
	"fmt"
	"slices"
	"strconv"
	"strings"
	"testing"

	"loop.example/g00201/impl"
)

// goodCode tells whether instructions are as CodeText has them.
func goodCode(l []impl.Instr) bool {
	good := len(l) <= 3000
	for _, i := range l {
		good = good && i.Op >= 1 && i.Op <= 13 && i.A >= 0 && i.A <= 100000 && len(i.Text) <= 1500 && !strings.Contains(i.Text, "\n")
	}
	return good
}

// deepPlace is an instruction that is come to, with so many values.
type deepPlace struct {
	at   int
	deep int
}

// modelWays gives what an instruction goes on to, and whether it is told with so many values.
func modelWays(i impl.Instr, p deepPlace) ([]deepPlace, bool) {
	next := func(more int) deepPlace { return deepPlace{p.at + 1, p.deep + more} }
	switch i.Op {
	case impl.OpConst, impl.OpName:
		return []deepPlace{next(1)}, true
	case impl.OpLambda:
		return []deepPlace{next(1), {i.A, 0}}, true
	case impl.OpSet, impl.OpDefine:
		return []deepPlace{next(0)}, p.deep >= 1
	case impl.OpDrop:
		return []deepPlace{next(-1)}, p.deep >= 1
	case impl.OpJump:
		return []deepPlace{{i.A, p.deep}}, true
	case impl.OpFalse:
		return []deepPlace{next(-1), {i.A, p.deep - 1}}, p.deep >= 1
	case impl.OpCall:
		return []deepPlace{next(-i.A)}, p.deep >= i.A+1
	case impl.OpTail:
		return nil, p.deep == i.A+1
	case impl.OpReturn:
		return nil, p.deep == 1
	case impl.OpEnd:
		return []deepPlace{next(-p.deep)}, p.deep == 1
	}
	return nil, p.deep == 0
}

// modelDepths is what DepthsOf should answer: places are met round by round, each with all numbers it is come to with.
func modelDepths(l []impl.Instr) ([]int, bool) {
	met := map[deepPlace]bool{}
	depths := slices.Repeat([]int{-1}, len(l))
	for round := []deepPlace{{}}; len(round) > 0; {
		var next []deepPlace
		for _, p := range round {
			if met[p] {
				continue
			}
			met[p] = true
			if !goodCode(l) || p.at >= len(l) || depths[p.at] >= 0 {
				return nil, false
			}
			depths[p.at] = p.deep
			ways, ok := modelWays(l[p.at], p)
			if !ok {
				return nil, false
			}
			next = append(next, ways...)
		}
		round = next
	}
	return depths, true
}

// depthsText writes depths with a blank between, - where an instruction is never come to.
func depthsText(l []int) string {
	var out []string
	for _, n := range l {
		out = append(out, strings.Replace(strconv.Itoa(n), "-1", "-", 1))
	}
	return strings.Join(out, " ")
}

// depthsAsModel holds DepthsOf against the model, and tells whether there are depths.
func depthsAsModel(t *testing.T, l []impl.Instr) bool {
	t.Helper()
	want, wantOk := modelDepths(l)
	got, ok := impl.DepthsOf(l)
	if ok != wantOk || !slices.Equal(got, want) {
		t.Errorf("DepthsOf(%s): %s, %v; wanted %s, %v", short(fmt.Sprint(l)), short(depthsText(got)), ok, short(depthsText(want)), wantOk)
	}
	return ok
}

// hasDepths asks for depths.
func hasDepths(t *testing.T, l []impl.Instr, want string) {
	t.Helper()
	got, ok := impl.DepthsOf(l)
	if !ok || depthsText(got) != want {
		t.Errorf("DepthsOf(%s): %s, %v; wanted %s", short(fmt.Sprint(l)), short(depthsText(got)), ok, short(want))
	}
	depthsAsModel(t, l)
}

// hasNoDepths asks for the zero answer.
func hasNoDepths(t *testing.T, l []impl.Instr) {
	t.Helper()
	if got, ok := impl.DepthsOf(l); len(got) != 0 || ok {
		t.Errorf("DepthsOf(%s): %s, %v; wanted the zero answer", short(fmt.Sprint(l)), short(depthsText(got)), ok)
	}
	depthsAsModel(t, l)
}

// coreTrees reads core forms; false, where a text is none.
func coreTrees(text string) ([]tree, bool) {
	l, code := impl.ReadData(text)
	forest := treesOf(l)
	return forest, code == impl.ReadOk && allAreCore(forest)
}

func allAreCore(forest []tree) bool {
	for _, f := range forest {
		inner, ok := modelCore(f)
		if !ok || !allAreCore(inner) {
			return false
		}
	}
	return true
}

// spots are a core form and all core forms in it, each to be changed in its place.
func spots(f *tree) []*tree {
	out := []*tree{f}
	inner, _ := modelCore(*f)
	for at := range inner {
		out = append(out, spots(&inner[at])...)
	}
	return out
}

func beginsWith(f tree, name string) bool {
	return f.kind == impl.DatumList && len(f.parts) > 0 && isSym(f.parts[0], name)
}

func isFalseTree(f tree) bool {
	return f.kind == impl.DatumBool && f.text == "f" || beginsWith(f, "quote") && isFalseTree(f.parts[1]) && f.parts[1].kind == impl.DatumBool
}

func isDeadTree(f tree) bool {
	switch f.kind {
	case impl.DatumNum, impl.DatumStr, impl.DatumBool:
		return true
	}
	return beginsWith(f, "quote") || beginsWith(f, "lambda")
}

// rewritten makes one form simpler by one rule, whatever its parts are; false, where there is none.
func rewritten(f *tree) bool {
	switch {
	case beginsWith(*f, "if") && isFalseTree(f.parts[1]):
		*f = f.parts[3]
		return true
	case beginsWith(*f, "if") && isDeadTree(f.parts[1]):
		*f = f.parts[2]
		return true
	case beginsWith(*f, "begin") && len(f.parts) == 2:
		*f = f.parts[1]
		return true
	case !beginsWith(*f, "begin"):
		return false
	}
	for at, part := range f.parts {
		if beginsWith(part, "begin") {
			f.parts = slices.Concat(f.parts[:at], part.parts[1:], f.parts[at+1:])
			return true
		}
		if at > 0 && at < len(f.parts)-1 && isDeadTree(part) {
			f.parts = slices.Concat(f.parts[:at], f.parts[at+1:])
			return true
		}
	}
	return false
}

// modelFold is what FoldForms should answer: rules are used anywhere, in any order, till there is none.
func modelFold(d *dice, text string) (string, bool) {
	forest, ok := coreTrees(text)
	if !ok {
		return "", false
	}
	for at := range forest {
		for changed := true; changed; {
			changed = false
			all := spots(&forest[at])
			from := d.below(len(all))
			for n := range all {
				if rewritten(all[(from+n)%len(all)]) {
					changed = true
					break
				}
			}
		}
	}
	out := textOf(forest)
	if len(out) > impl.MaxText {
		return "", false
	}
	return out, true
}

// foldsAsModel holds FoldForms against the model, and gives what it tells.
func foldsAsModel(t *testing.T, d *dice, text string) (string, bool) {
	t.Helper()
	want, wantOk := modelFold(d, text)
	got, ok := impl.FoldForms(text)
	if got != want || ok != wantOk {
		t.Errorf("FoldForms(%q): %q, %v; wanted %q, %v", text, got, ok, want, wantOk)
	}
	return got, ok
}

// foldsTo asks for a text, and that it stays as it is.
func foldsTo(t *testing.T, text string, want string) {
	t.Helper()
	for _, s := range []string{text, want} {
		got, ok := impl.FoldForms(s)
		told(t, fmt.Sprintf("FoldForms(%q)", short(s)), got, ok, want)
	}
	foldsAsModel(t, &dice{state: 5}, text)
}

// foldsNot asks for the zero answer.
func foldsNot(t *testing.T, text string) {
	t.Helper()
	got, ok := impl.FoldForms(text)
	refused(t, fmt.Sprintf("FoldForms(%q)", short(text)), got, ok)
}

// modelFreeNames is what FreeNames should answer: how often each name stands free.
func modelFreeNames(text string) ([]string, bool) {
	forest, ok := coreTrees(text)
	if !ok {
		return nil, false
	}
	many := map[string]int{}
	for _, f := range forest {
		countFree(f, many)
	}
	var out []string
	for name, times := range many {
		if times > 0 {
			out = append(out, name)
		}
	}
	slices.Sort(out)
	return out, true
}

// countFree counts the free names of a form; a lambda takes its parameters from those of its body.
func countFree(f tree, many map[string]int) {
	if f.kind == impl.DatumSym {
		many[f.text]++
	}
	if beginsWith(f, "set!") {
		many[f.parts[1].text]++
	}
	inner, _ := modelCore(f)
	here := map[string]int{}
	for _, part := range inner {
		countFree(part, here)
	}
	if beginsWith(f, "lambda") {
		for _, p := range append(slices.Clone(f.parts[1].parts), f.parts[1]) {
			here[p.text] = 0
		}
	}
	for name, times := range here {
		many[name] += times
	}
}

// freeAsModel holds FreeNames against the model, and gives what it tells.
func freeAsModel(t *testing.T, text string) ([]string, bool) {
	t.Helper()
	want, wantOk := modelFreeNames(text)
	got, ok := impl.FreeNames(text)
	if !slices.Equal(got, want) || ok != wantOk {
		t.Errorf("FreeNames(%q): %v, %v; wanted %v, %v", text, got, ok, want, wantOk)
	}
	return got, ok
}

// isFreeIn asks for names, with a blank between.
func isFreeIn(t *testing.T, text string, want string) {
	t.Helper()
	got, ok := impl.FreeNames(text)
	if !ok || !slices.Equal(got, strings.Fields(want)) {
		t.Errorf("FreeNames(%q): %v, %v; wanted %s", short(text), got, ok, want)
	}
	freeAsModel(t, text)
}

// countAsModel holds CountCode against the model of what CompileForms tells.
func countAsModel(t *testing.T, text string) {
	t.Helper()
	l, code := modelCode(text)
	if got, ok := impl.CountCode(text); got != len(l) || ok != (code == impl.RunOk) {
		t.Errorf("CountCode(%q): %d, %v; wanted %d, %v", short(text), got, ok, len(l), code == impl.RunOk)
	}
}

// callsAsModel holds CallsIn against a count in the text of instructions.
func callsAsModel(t *testing.T, l []impl.Instr) {
	t.Helper()
	calls, tails, good := 0, 0, goodCode(l)
	if good {
		for _, i := range l {
			calls += map[int]int{impl.OpCall: 1}[i.Op]
			tails += map[int]int{impl.OpTail: 1}[i.Op]
		}
	}
	if gotCalls, gotTails, ok := impl.CallsIn(l); gotCalls != calls || gotTails != tails || ok != good {
		t.Errorf("CallsIn(%s): %d, %d, %v; wanted %d, %d, %v", short(fmt.Sprint(l)), gotCalls, gotTails, ok, calls, tails, good)
	}
}

// coreWords are names for drawn core forms, some of them primitives, some bound by drawn lambdas.
var coreWords = []string{"a", "b", "c", "x", "y", "car", "list", "display", "B", "a.b", "-a", "~"}

// coreForm draws a core form: much of it is dead, or within several begins.
func (d *dice) coreForm(deep int) string {
	if deep == 0 || d.below(6) == 0 {
		return d.coreLeaf()
	}
	in := func() string { return d.coreForm(deep - 1) }
	name := coreWords[d.below(len(coreWords))]
	switch d.below(8) {
	case 0, 1:
		return "(if " + in() + " " + in() + " " + in() + ")"
	case 2, 3:
		return "(begin" + d.many(1+d.below(4), in) + ")"
	case 4:
		return "(define " + name + " " + in() + ")"
	case 5:
		return "(set! " + name + " " + in() + ")"
	case 6:
		return "(lambda " + d.parameters() + " " + in() + ")"
	}
	return "(" + strings.TrimPrefix(d.many(1+d.below(4), in), " ") + ")"
}

func (d *dice) coreLeaf() string {
	leaves := []string{"#f", "#f", "#t", "0", "7", "-1/2", `"s"`, `""`, "'a", "'#f", "'#t", "'()", "'(if #f 1 2)", "'(begin (begin 1) 2)", "(quote (quote #f))", "(lambda () #f)"}
	if d.below(2) == 0 {
		return coreWords[d.below(len(coreWords))]
	}
	return leaves[d.below(len(leaves))]
}

// many are so many texts, each behind a blank.
func (d *dice) many(many int, one func() string) string {
	text := ""
	for range many {
		text += " " + one()
	}
	return text
}

// parameters draws what a lambda may have: a list, one with a rest, one name alone.
func (d *dice) parameters() string {
	names := slices.Clone(coreWords)
	for at := range names {
		other := at + d.below(len(names)-at)
		names[at], names[other] = names[other], names[at]
	}
	names = names[:d.below(5)]
	switch last := len(names) - 1; {
	case last == 0 && d.below(2) == 0:
		return names[0]
	case last > 0 && d.below(2) == 0:
		return "(" + strings.Join(names[:last], " ") + " . " + names[last] + ")"
	}
	return "(" + strings.Join(names, " ") + ")"
}

// drawnCore are texts of some core forms each.
func drawnCore(state uint64, many int) []string {
	d := &dice{state: state}
	var out []string
	for len(out) < many {
		text := d.many(1+d.below(3), func() string { return d.coreForm(1 + d.below(5)) })
		if impl.IsCore(text) {
			out = append(out, text[1:])
		}
	}
	return out
}

// expandedPrograms are texts of core forms that mostly do something.
func expandedPrograms(state uint64, many int) []string {
	s := &scribe{dice: &dice{state: state}, names: []string{"g0", "turns"}, kinds: "nn"}
	var out []string
	for len(out) < many {
		if text, _, code := impl.ExpandForms(s.program(), nil); code == impl.ExpandOk {
			out = append(out, text)
		}
	}
	return out
}
