package tests

import (
	"cmp"
	"fmt"
	"regexp"
	"slices"
	"strconv"
	"strings"
	"testing"

	"loop.example/g00201/impl"
)

// In these models a type is its text alone: it is cut into signs, and what is bound is written in.

// A number with needless noughts is cut, and so does not come back in the signs.
var typeSigns = regexp.MustCompile(`[(>)]|t(?:0|[1-9][0-9]*)`)

// typeFits takes the innermost arrows for variables, till just one is left; it says whether this was a type of so many
// nodes, so many around each other.
func typeFits(s string, nodes int, deep int) bool {
	signs := typeSigns.FindAllString(s, -1)
	if strings.Join(signs, "") != s {
		return false
	}
	many, around, most := 0, 0, 0
	for at, sign := range signs {
		switch {
		case sign == "(":
			many++
			around++
			most = max(most, around)
		case sign == ")":
			around--
		case sign != ">":
			many++
			if len(sign) > len("t999") {
				return false
			}
			signs[at] = "v"
		}
	}
	left := strings.Join(signs, "")
	for before := ""; left != before; {
		before = left
		left = strings.ReplaceAll(left, "(v>v)", "v")
	}
	return left == "v" && many <= nodes && most < deep
}

func modelGoodType(s string) bool { return typeFits(s, 200, 60) }

func nodesOfType(s string) int { return strings.Count(s, "t") + strings.Count(s, "(") }

func deepOfType(s string) int {
	deep := 1
	for !typeFits(s, len(s), deep) {
		deep++
	}
	return deep
}

func modelVars(s string) []int {
	var out []int
	for _, sign := range typeSigns.FindAllString(s, -1) {
		if n, wrong := strconv.Atoi(sign[1:]); wrong == nil && !slices.Contains(out, n) {
			out = append(out, n)
		}
	}
	return out
}

// writtenIn writes what is bound into a text.
func writtenIn(binds map[int]string, s string) string {
	var out strings.Builder
	for at := 0; at < len(s); at++ {
		if s[at] != 't' {
			out.WriteByte(s[at])
			continue
		}
		end := at + 1
		for end < len(s) && s[end] >= '0' && s[end] <= '9' {
			end++
		}
		n, _ := strconv.Atoi(s[at+1 : end])
		if to, ok := binds[n]; ok {
			out.WriteString(to)
		} else {
			out.WriteString(s[at:end])
		}
		at = end - 1
	}
	return out.String()
}

func modelPlain(s string) string {
	binds := map[int]string{}
	for at, n := range modelVars(s) {
		binds[n] = fmt.Sprint("t", at)
	}
	return writtenIn(binds, s)
}

// firstType gives the type at the front of a text: till as many brackets are closed as are open.
func firstType(s string) string {
	open := 0
	for at, c := range []byte(s) {
		switch c {
		case '(':
			open++
		case ')':
			open--
		}
		if open == 0 && (c == ')' || at+1 == len(s) || s[at+1] == '>' || s[at+1] == ')') {
			return s[:at+1]
		}
	}
	return s
}

// typeParts gives both parts of an arrow.
func typeParts(s string) (string, string) {
	first := firstType(s[1:])
	return first, s[len(first)+2 : len(s)-1]
}

// modelUnify does what the chapter says, word by word, with any limits.
func modelUnify(a string, b string, nodes int, deep int) (map[int]string, bool) {
	binds := map[int]string{}
	bind := func(v string, to string) bool {
		n, _ := strconv.Atoi(v[1:])
		if v[0] != 't' || slices.Contains(modelVars(to), n) {
			return false
		}
		for old := range binds {
			binds[old] = writtenIn(map[int]string{n: to}, binds[old])
		}
		binds[n] = to
		return true
	}
	for pairs := [][2]string{{a, b}}; len(pairs) > 0; {
		first, second := writtenIn(binds, pairs[0][0]), writtenIn(binds, pairs[0][1])
		pairs = pairs[1:]
		if !typeFits(first, nodes, deep) || !typeFits(second, nodes, deep) {
			return nil, false
		}
		switch {
		case first == second, bind(first, second), bind(second, first):
		case first[0] == '(' && second[0] == '(':
			a, b := typeParts(first)
			c, d := typeParts(second)
			pairs = slices.Insert(pairs, 0, [2]string{a, c}, [2]string{b, d})
		default:
			return nil, false
		}
		for _, to := range binds {
			if !typeFits(to, nodes, deep) {
				return nil, false
			}
		}
	}
	return binds, true
}

// modelInstance lays one text over the other, and then asks whether what stands over the variables makes it.
func modelInstance(general string, special string) bool {
	binds := map[int]string{}
	left := special
	for _, sign := range typeSigns.FindAllString(general, -1) {
		over := sign
		if n, wrong := strconv.Atoi(sign[1:]); wrong == nil {
			over = firstType(left)
			binds[n] = over
		}
		if left == "" || !strings.HasPrefix(left, over) {
			return false
		}
		left = left[len(over):]
	}
	return writtenIn(binds, general) == special
}

// bindsIn gives binds in the order of their variables.
func bindsIn(binds map[int]string) []impl.Bind {
	var out []impl.Bind
	for n, to := range binds {
		out = append(out, impl.Bind{Var: n, Type: to})
	}
	slices.SortFunc(out, func(a impl.Bind, b impl.Bind) int { return cmp.Compare(a.Var, b.Var) })
	return out
}

func modelGoodBinds(b []impl.Bind) bool {
	for at, one := range b {
		if one.Var < 0 || one.Var > 999 || at > 0 && b[at-1].Var >= one.Var || !modelGoodType(one.Type) {
			return false
		}
	}
	return len(b) <= 200
}

func modelApplyType(b []impl.Bind, s string) (string, bool) {
	if !modelGoodBinds(b) || !modelGoodType(s) {
		return "", false
	}
	binds := map[int]string{}
	for _, one := range b {
		binds[one.Var] = one.Type
	}
	if out := writtenIn(binds, s); modelGoodType(out) {
		return out, true
	}
	return "", false
}

// typeCell is a type in a graph: cells that must be the same are laid together, whether that ends or not.
type typeCell struct {
	same     *typeCell
	from, to *typeCell
	nodes    int
	open     bool
}

func (c *typeCell) found() *typeCell {
	for c.same != nil {
		c = c.same
	}
	return c
}

func (c *typeCell) join(other *typeCell) {
	c, other = c.found(), other.found()
	switch {
	case c == other:
	case c.from == nil:
		c.same = other
	case other.from == nil:
		other.same = c
	default:
		c.same = other
		c.from.join(other.from)
		c.to.join(other.to)
	}
}

// count counts the nodes, up to some thousands; false, where a type would be in itself.
func (c *typeCell) count() (int, bool) {
	c = c.found()
	if c.nodes > 0 || c.open {
		return c.nodes, !c.open
	}
	c.nodes = 1
	if c.from != nil {
		c.nodes, c.open = 0, true
		from, ok := c.from.count()
		to, alsoOk := c.to.count()
		if !ok || !alsoOk {
			return 0, false
		}
		c.nodes, c.open = min(from+to+1, 100000), false
	}
	return c.nodes, true
}

func (c *typeCell) text(numbers map[*typeCell]int) string {
	c = c.found()
	if c.from != nil {
		first := c.from.text(numbers)
		return "(" + first + ">" + c.to.text(numbers) + ")"
	}
	if _, ok := numbers[c]; !ok {
		numbers[c] = len(numbers)
	}
	return fmt.Sprint("t", numbers[c])
}

// typeCells gives each part of a term its cell, and lays together what the chapter says is the same.
func (m *lamTerm) typeCells() map[*lamTerm]*typeCell {
	cells, variables := map[*lamTerm]*typeCell{}, map[*lamTerm]*typeCell{}
	parts := m.preorder()
	for _, part := range parts {
		cells[part], variables[part] = &typeCell{}, &typeCell{}
	}
	for _, part := range parts {
		switch part.kind {
		case impl.TermVar:
			cells[part].join(variables[part.of])
		case impl.TermLam:
			cells[part].join(&typeCell{from: variables[part], to: cells[part.parts[0]]})
		default:
			cells[part.parts[0]].join(&typeCell{from: cells[part.parts[1]], to: cells[part]})
		}
	}
	return cells
}

// modelInfer gives the most general type of a good term, if it is one, and how many nodes the types of its parts have at
// most; false, where there is none at all.
func modelInfer(l []impl.Term) (string, int, bool) {
	m := lamTermOf(l)
	cells := m.typeCells()
	most := 0
	for _, part := range m.preorder() {
		nodes, ok := cells[part].count()
		if !ok {
			return "", 0, false
		}
		most = max(most, nodes)
	}
	if nodes, _ := cells[m].count(); nodes > 200 {
		return "", most, true
	}
	text := cells[m].text(map[*typeCell]int{})
	if !modelGoodType(text) {
		text = ""
	}
	return text, most, true
}

// wideType is a type of just so many nodes (an odd number), nowhere deeper than it must be, with one variable.
func wideType(nodes int, variable string) string {
	if nodes == 1 {
		return variable
	}
	first := (nodes - 1) / 2
	if first%2 == 0 {
		first--
	}
	return "(" + wideType(first, variable) + ">" + wideType(nodes-1-first, variable) + ")"
}

// arrowsTo is a type with so many arrows, each from one variable, around another one.
func arrowsTo(many int, from string, to string) string {
	return strings.Repeat("("+from+">", many) + to + strings.Repeat(")", many)
}

// arrowsFrom is a type with so many arrows, each to one variable, around another one.
func arrowsFrom(many int, from string, to string) string {
	return strings.Repeat("(", many) + from + strings.Repeat(">"+to+")", many)
}

// spreadTypes puts arrows between types, nowhere deeper than it must be.
func spreadTypes(parts []string) string {
	if len(parts) == 1 {
		return parts[0]
	}
	half := len(parts) / 2
	return "(" + spreadTypes(parts[:half]) + ">" + spreadTypes(parts[half:]) + ")"
}

// typ draws a type with just so many variables, of those below a number.
func (d *dice) typ(leaves int, variables int) string {
	if leaves == 1 {
		return fmt.Sprint("t", d.below(variables))
	}
	first := 1 + d.below(leaves-1)
	return "(" + d.typ(first, variables) + ">" + d.typ(leaves-first, variables) + ")"
}

// drawnTypes are types with up to so many variables.
func drawnTypes(state uint64, many int, leaves int) []string {
	d := &dice{state: state}
	var out []string
	for len(out) < many {
		if s := d.typ(1+d.below(leaves), 1+d.below(6)); modelGoodType(s) {
			out = append(out, s)
		}
	}
	return out
}

// binds draws good binds for variables below a number.
func (d *dice) binds(variables int, leaves int) []impl.Bind {
	var out []impl.Bind
	for n := range variables {
		if d.below(2) == 0 {
			out = append(out, impl.Bind{Var: n, Type: d.typ(1+d.below(leaves), variables)})
		}
	}
	return out
}

// closed gives terms that have no free variables, by lambdas around them.
func closed(terms [][]impl.Term) [][]impl.Term {
	var out [][]impl.Term
	for _, l := range terms {
		free, _ := impl.FreeIn(l)
		if len(free) > 0 {
			l = nodesIn(lambdas(free[len(free)-1]+1, spell(l)))
		}
		if modelGoodTerm(l) {
			out = append(out, l)
		}
	}
	return out
}

// isTypeText asks for a text; of none, for the zero answer.
func isTypeText(t *testing.T, what string, got string, ok bool, want string) {
	t.Helper()
	if want == "" {
		refused(t, what, got, ok)
	} else {
		told(t, what, got, ok, want)
	}
}

func isGoodType(t *testing.T, s string, want bool) {
	t.Helper()
	if impl.GoodType(s) != want {
		t.Errorf("GoodType(%q) is %v", short(s), !want)
	}
	if modelGoodType(s) != want {
		t.Errorf("the model takes %q for %v", short(s), !want)
	}
}

// toldBinds asks for binds, or for the zero answer.
func toldBinds(t *testing.T, what string, got []impl.Bind, ok bool, want []impl.Bind, wantOk bool) {
	t.Helper()
	if !slices.Equal(got, want) || ok != wantOk {
		t.Errorf("%s: %v, %v; wanted %v, %v", what, got, ok, want, wantOk)
	}
}

// unifies asks for binds that are written like "0:t1 3:(t1>t1)".
func unifies(t *testing.T, a string, b string, binds string) {
	t.Helper()
	var want []impl.Bind
	for _, one := range strings.Fields(binds) {
		n, to, _ := strings.Cut(one, ":")
		variable, _ := strconv.Atoi(n)
		want = append(want, impl.Bind{Var: variable, Type: to})
	}
	got, ok := impl.UnifyTypes(a, b)
	toldBinds(t, fmt.Sprintf("UnifyTypes(%s, %s)", short(a), short(b)), got, ok, want, true)
	unifiesAsModel(t, a, b)
}

func unifiesNot(t *testing.T, a string, b string) {
	t.Helper()
	got, ok := impl.UnifyTypes(a, b)
	toldBinds(t, fmt.Sprintf("UnifyTypes(%s, %s)", short(a), short(b)), got, ok, nil, false)
	unifiesAsModel(t, a, b)
}

// unifiesAsModel holds UnifyTypes of two types against the model, and says whether there are binds.
func unifiesAsModel(t *testing.T, a string, b string) bool {
	t.Helper()
	binds, wantOk := modelUnify(a, b, 200, 60)
	got, ok := impl.UnifyTypes(a, b)
	toldBinds(t, fmt.Sprintf("UnifyTypes(%s, %s) as the model", a, b), got, ok, bindsIn(binds), wantOk)
	return ok
}

func isInstance(t *testing.T, general string, special string, want bool) {
	t.Helper()
	if is, ok := impl.InstanceOf(general, special); is != want || !ok {
		t.Errorf("InstanceOf(%s, %s): %v, %v; wanted %v, true", short(general), short(special), is, ok, want)
	}
	if modelInstance(general, special) != want {
		t.Errorf("the model takes %s for an instance of %s: %v", short(special), short(general), !want)
	}
}

func infers(t *testing.T, text string, want string) {
	t.Helper()
	got, ok := impl.InferTerm(nodesIn(text))
	isTypeText(t, fmt.Sprintf("InferTerm(%s)", short(text)), got, ok, want)
}

func hasType(t *testing.T, text string, s string, want bool) {
	t.Helper()
	if is, ok := impl.HasType(nodesIn(text), s); is != want || !ok {
		t.Errorf("HasType(%s, %s): %v, %v; wanted %v, true", short(text), short(s), is, ok, want)
	}
}
