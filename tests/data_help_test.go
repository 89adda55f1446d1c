package tests

import (
	"fmt"
	"regexp"
	"slices"
	"strings"
	"testing"

	"loop.example/g00201/impl"
)

// tree is a datum as a person sees it: the tests make nodes and texts of it in ways of their own.
type tree struct {
	kind  int
	text  string
	parts []tree
}

func numTree(s string) tree         { return tree{kind: impl.DatumNum, text: s} }
func symTree(s string) tree         { return tree{kind: impl.DatumSym, text: s} }
func strTree(s string) tree         { return tree{kind: impl.DatumStr, text: s} }
func boolTree(s string) tree        { return tree{kind: impl.DatumBool, text: s} }
func listTree(parts ...tree) tree   { return tree{kind: impl.DatumList, parts: parts} }
func dottedTree(parts ...tree) tree { return tree{kind: impl.DatumDotted, parts: parts} }

// nested is a datum within so many lists.
func nested(lists int, inner ...tree) []tree {
	for range lists {
		inner = []tree{listTree(inner...)}
	}
	return inner
}

// symbols are so many data of one node.
func symbols(many int) []tree {
	return slices.Repeat([]tree{symTree("a")}, many)
}

func nodesOf(forest []tree) []impl.Datum {
	var out []impl.Datum
	var walk func(parts []tree, up int)
	walk = func(parts []tree, up int) {
		for _, p := range parts {
			out = append(out, impl.Datum{Kind: p.kind, Text: p.text, Up: up})
			walk(p.parts, len(out)-1)
		}
	}
	walk(forest, -1)
	return out
}

// spelled joins what a way of writing gives of each datum.
func spelled(forest []tree, blank func() string, leaf func(tree) string) string {
	var texts []string
	for _, p := range forest {
		if p.kind != impl.DatumList && p.kind != impl.DatumDotted {
			texts = append(texts, leaf(p))
			continue
		}
		if p.kind == impl.DatumDotted {
			last := len(p.parts) - 1
			inner := spelled(p.parts[:last], blank, leaf) + blank() + "." + blank() + leaf(p.parts[last])
			texts = append(texts, "("+inner+")")
			continue
		}
		texts = append(texts, "("+spelled(p.parts, blank, leaf)+")")
	}
	out := ""
	for at, text := range texts {
		if at > 0 {
			out += blank()
		}
		out += text
	}
	return out
}

// textOf is what DataText should give.
func textOf(forest []tree) string {
	return spelled(forest, func() string { return " " }, func(p tree) string {
		switch p.kind {
		case impl.DatumStr:
			return `"` + strings.NewReplacer(`"`, `\"`, `\`, `\\`, "\n", `\n`).Replace(p.text) + `"`
		case impl.DatumBool:
			return "#" + p.text
		}
		return p.text
	})
}

func countNodes(forest []tree) int { return len(nodesOf(forest)) }

// leaf makes a datum that is no list.
func (d *dice) leaf() tree {
	switch d.below(4) {
	case 0:
		return numTree(d.num(1+d.below(4), d.below(3)))
	case 1:
		text := make([]byte, d.below(6))
		for at := range text {
			text[at] = "ab \"\\\nn~;()'."[d.below(13)]
		}
		return strTree(string(text))
	case 2:
		return boolTree([]string{"t", "f"}[d.below(2)])
	}
	return symTree([]string{"a", "b", "quote", "+", "-", "...", "x.y", "1+", "a/b", "set!", "-a", "1/0", ".5"}[d.below(13)])
}

// forest makes data with at most so many lists around each other.
func (d *dice) forest(most int, lists int) []tree {
	var out []tree
	for range d.below(most + 1) {
		if lists == 0 || d.below(3) > 0 {
			out = append(out, d.leaf())
			continue
		}
		inner := d.forest(most, lists-1)
		if len(inner) > 0 && d.below(2) == 0 {
			out = append(out, dottedTree(append(inner, d.leaf())...))
		} else {
			out = append(out, listTree(inner...))
		}
	}
	return out
}

// forests are data of all kinds, good ones.
func forests() [][]tree {
	d := &dice{state: 31}
	out := [][]tree{nil, symbols(300), nested(25), nested(25, symTree("a")), {listTree()}, {listTree(), listTree()}}
	for len(out) < 3000 {
		if f := d.forest(1+d.below(5), d.below(6)); countNodes(f) <= 300 {
			out = append(out, f)
		}
	}
	return out
}

// readTold asks for these data, and ReadOk.
func readTold(t *testing.T, text string, forest []tree) {
	t.Helper()
	got, code := impl.ReadData(text)
	if code != impl.ReadOk || !slices.Equal(got, nodesOf(forest)) {
		t.Errorf("ReadData(%q): %v, %d; wanted %v", short(text), got, code, nodesOf(forest))
	}
}

// readFails asks for no data, and a code.
func readFails(t *testing.T, text string, want int) {
	t.Helper()
	got, code := impl.ReadData(text)
	if len(got) != 0 || code != want {
		t.Errorf("ReadData(%q) of %d bytes: %d nodes, code %d; wanted none, code %d", short(text), len(text), len(got), code, want)
	}
}

// codes are words that tests write for codes.
var codes = map[string]int{"long": impl.ReadLong, "short": impl.ReadShort, "form": impl.ReadForm, "many": impl.ReadMany}

// open is a list that is not closed yet: one within brackets, or one that a ' stands for.
type open struct {
	node   int
	quote  bool
	dotted bool
	parts  int
	behind int
}

// readModel reads data by a pile of open lists, each string and word being found as a whole.
type readModel struct {
	nodes []impl.Datum
	pile  []open
}

var (
	modelBlank  = regexp.MustCompile(`^(?:[ \t\n\r]|;[^\n]*)+`)
	modelWord   = regexp.MustCompile(`^[^ \t\n\r()";']+`)
	modelSymbol = regexp.MustCompile(`^[a-zA-Z0-9!$%&*/:<=>?^_~+.@-]{1,30}$`)
	modelString = regexp.MustCompile(`^"((?:[ !#-\[\]-~\n]|\\["\\n]){0,100})"`)
	modelHalf   = regexp.MustCompile(`^"(?:[ !#-\[\]-~\n]|\\["\\n]){0,100}\\?$`)
)

// modelRead is what ReadData should answer.
func modelRead(s string) ([]impl.Datum, int) {
	if len(s) > impl.MaxText {
		return nil, impl.ReadLong
	}
	m := &readModel{}
	for {
		// A regular expression goes by runes, and takes a byte that is none for one.
		s = s[len(modelBlank.FindString(s)):]
		if s == "" {
			break
		}
		size, code := m.token(s)
		if code != impl.ReadOk {
			return nil, code
		}
		s = s[size:]
	}
	if len(m.pile) > 0 {
		return nil, impl.ReadShort
	}
	return m.nodes, impl.ReadOk
}

func (m *readModel) top() *open {
	if len(m.pile) == 0 {
		return &open{node: -1}
	}
	return &m.pile[len(m.pile)-1]
}

// token takes what the text begins with: how many bytes it has, and the code.
func (m *readModel) token(s string) (int, int) {
	top := m.top()
	inBrackets := top.node >= 0 && !top.quote
	switch {
	case s[0] == ')':
		if !inBrackets || top.dotted && top.behind != 1 {
			return 0, impl.ReadForm
		}
		m.pile = m.pile[:len(m.pile)-1]
		m.whole()
		return 1, impl.ReadOk
	case top.dotted && top.behind == 1:
		return 0, impl.ReadForm
	case s[0] == '(' || s[0] == '\'':
		return 1, m.push(s[0] == '\'')
	case s[0] == '"':
		return m.str(s)
	}
	word := modelWord.FindString(s)
	if word == "." {
		if !inBrackets || top.dotted || top.parts == 0 {
			return 0, impl.ReadForm
		}
		top.dotted = true
		m.nodes[top.node].Kind = impl.DatumDotted
		return 1, impl.ReadOk
	}
	return len(word), m.word(word)
}

func (m *readModel) push(quote bool) int {
	top := m.top()
	if top.dotted {
		return impl.ReadForm
	}
	if len(m.pile) == impl.MaxDeep || !m.put(impl.DatumList, "", top.node) {
		return impl.ReadMany
	}
	m.pile = append(m.pile, open{node: len(m.nodes) - 1, quote: quote})
	if quote && !m.put(impl.DatumSym, "quote", len(m.nodes)-1) {
		return impl.ReadMany
	}
	return impl.ReadOk
}

func (m *readModel) put(kind int, text string, up int) bool {
	m.nodes = append(m.nodes, impl.Datum{Kind: kind, Text: text, Up: up})
	return len(m.nodes) <= impl.MaxNodes
}

// whole counts a datum that is whole as a part of what it is in; a ' has just one, and is whole with it.
func (m *readModel) whole() {
	for m.top().quote {
		m.pile = m.pile[:len(m.pile)-1]
	}
	top := m.top()
	top.parts++
	if top.dotted {
		top.behind++
	}
}

func (m *readModel) leaf(kind int, text string) int {
	if !m.put(kind, text, m.top().node) {
		return impl.ReadMany
	}
	m.whole()
	return impl.ReadOk
}

func (m *readModel) str(s string) (int, int) {
	found := modelString.FindStringSubmatch(s)
	if found == nil && modelHalf.MatchString(s) {
		return 0, impl.ReadShort
	}
	if found == nil {
		return 0, impl.ReadForm
	}
	text := strings.NewReplacer(`\"`, `"`, `\\`, `\`, `\n`, "\n").Replace(found[1])
	return len(found[0]), m.leaf(impl.DatumStr, text)
}

func (m *readModel) word(word string) int {
	if text, ok := map[string]string{"#t": "t", "#true": "t", "#f": "f", "#false": "f"}[word]; ok {
		return m.leaf(impl.DatumBool, text)
	}
	if number, ok := impl.ReadNum(word); ok {
		return m.leaf(impl.DatumNum, number)
	}
	if modelSymbol.MatchString(word) {
		return m.leaf(impl.DatumSym, word)
	}
	return impl.ReadForm
}

// readAsModel holds ReadData against the model, and gives the code.
func readAsModel(t *testing.T, text string) int {
	t.Helper()
	want, wantCode := modelRead(text)
	got, code := impl.ReadData(text)
	if code != wantCode || !slices.Equal(got, want) {
		t.Errorf("ReadData(%q): %v, %d; wanted %v, %d", text, got, code, want, wantCode)
	}
	return code
}

// key tells nodes apart.
func key(l []impl.Datum) string { return fmt.Sprint(l) }
