package tests

import (
	"math"
	"slices"
	"strconv"
	"strings"
	"testing"

	"loop.example/g00201/impl"
)

// heapNode is a cell of the model: a leaf where it has no parts. Nodes have no numbers, so none can be wrong.
type heapNode struct {
	n      int
	first  *heapNode
	second *heapNode
}

// heapModel is a heap whose roots and pairs hold the nodes themselves.
type heapModel struct {
	cells []*heapNode
	old   int
	roots []*heapNode
}

func heapModelOf(h impl.Heap) *heapModel {
	m := &heapModel{old: h.Old}
	for _, c := range h.Cells {
		m.cells = append(m.cells, &heapNode{n: c.N})
	}
	for at, c := range h.Cells {
		if !c.Leaf {
			m.cells[at].first, m.cells[at].second = m.cells[c.A], m.cells[c.B]
		}
	}
	for _, root := range h.Roots {
		m.roots = append(m.roots, m.cells[root])
	}
	return m
}

// heap gives the model its numbers.
func (m *heapModel) heap() impl.Heap {
	h := impl.Heap{Old: m.old}
	for _, node := range m.cells {
		c := impl.Cell{Leaf: true, N: node.n}
		if node.first != nil {
			c = impl.Cell{A: slices.Index(m.cells, node.first), B: slices.Index(m.cells, node.second)}
		}
		h.Cells = append(h.Cells, c)
	}
	for _, root := range m.roots {
		h.Roots = append(h.Roots, slices.Index(m.cells, root))
	}
	return h
}

// reach puts a node and all its parts into what was reached.
func (n *heapNode) reach(reached map[*heapNode]bool) {
	if n == nil || reached[n] {
		return
	}
	reached[n] = true
	n.first.reach(reached)
	n.second.reach(reached)
}

// collect leaves what is reached from the roots, and from the cells ahead of old.
func (m *heapModel) collect(old int) {
	reached := map[*heapNode]bool{}
	for _, node := range slices.Concat(m.roots, m.cells[:old]) {
		node.reach(reached)
	}
	m.cells = slices.DeleteFunc(slices.Clone(m.cells), func(n *heapNode) bool { return !reached[n] })
	m.old = len(m.cells)
}

// reached tells the numbers of what the roots reach.
func (m *heapModel) reached() []int {
	reached := map[*heapNode]bool{}
	for _, node := range m.roots {
		node.reach(reached)
	}
	var out []int
	for at, node := range m.cells {
		if reached[node] {
			out = append(out, at)
		}
	}
	return out
}

// length is how long a node's text is, a great one as 1000.
func (n *heapNode) length(known map[*heapNode]int) int {
	if n.first == nil {
		return len(strconv.Itoa(n.n))
	}
	if known[n] == 0 {
		known[n] = min(1000, 3+n.first.length(known)+n.second.length(known))
	}
	return known[n]
}

// show tells a node's text where it is at most 500 bytes.
func (n *heapNode) show() (string, bool) {
	if n.length(map[*heapNode]int{}) > 500 {
		return "", false
	}
	return n.text(), true
}

func (n *heapNode) text() string {
	if n.first == nil {
		return strconv.Itoa(n.n)
	}
	return "(" + n.first.text() + " " + n.second.text() + ")"
}

// heapPlay is what ops should come to.
type heapPlay struct {
	told string
	full bool
}

// modelPlay does ops; without collecting where room is below 0.
func modelPlay(l []impl.HeapOp, room int, nursery int) heapPlay {
	m, p := &heapModel{}, heapPlay{}
	for _, op := range l {
		if p.full = !m.play(op, room, nursery); p.full {
			return p
		}
		p.told += m.tell(op)
	}
	return p
}

// play does an op, but for what it tells, and says whether there was room for it.
func (m *heapModel) play(op impl.HeapOp, room int, nursery int) bool {
	switch op.Kind {
	case impl.HeapCollect:
		if room >= 0 {
			m.collect(0)
		}
		return true
	case impl.HeapMinor:
		if room >= 0 {
			m.collect(m.old)
		}
		return true
	case impl.HeapDrop:
		if m.root(op.A) != nil {
			m.roots = slices.Concat(m.roots[:op.A], m.roots[op.A+1:])
		}
		return true
	}
	node := m.made(op)
	if node == nil || len(m.roots) == 60 {
		return true
	}
	if !slices.Contains(m.cells, node) {
		if room >= 0 && !m.hasRoom(room, nursery) {
			return false
		}
		m.cells = append(m.cells, node)
	}
	m.roots = append(m.roots, node)
	return true
}

func (m *heapModel) root(at int) *heapNode {
	if at < 0 || at >= len(m.roots) {
		return nil
	}
	return m.roots[at]
}

// made is the node that is to be a root, new or not; none where the op can not be done.
func (m *heapModel) made(op impl.HeapOp) *heapNode {
	a, b := m.root(op.A), m.root(op.B)
	switch {
	case op.Kind == impl.HeapLeaf:
		return &heapNode{n: op.A}
	case op.Kind == impl.HeapPair && a != nil && b != nil:
		return &heapNode{first: a, second: b}
	case op.Kind == impl.HeapFirst && a != nil:
		return a.first
	case op.Kind == impl.HeapSecond && a != nil:
		return a.second
	}
	return nil
}

func (m *heapModel) hasRoom(room int, nursery int) bool {
	if len(m.cells)-m.old >= nursery {
		m.collect(m.old)
	}
	if len(m.cells) >= room {
		m.collect(0)
	}
	return len(m.cells) < room
}

func (m *heapModel) tell(op impl.HeapOp) string {
	a, b := m.root(op.A), m.root(op.B)
	switch {
	case op.Kind == impl.HeapShow && a != nil:
		if text, ok := a.show(); ok {
			return text + "\n"
		}
		return "long\n"
	case op.Kind == impl.HeapSame && a != nil && b != nil && a == b:
		return "same\n"
	case op.Kind == impl.HeapSame && a != nil && b != nil:
		return "other\n"
	}
	return ""
}

// heapOpNames are the words by which the tests write ops, each at its kind.
var heapOpNames = []string{"", "leaf", "pair", "first", "second", "drop", "show", "same", "collect", "minor"}

func opsOf(text string) []impl.HeapOp { return opsIn(heapOpNames, text) }

// opsIn reads ops as the tests write them: with a | between, each its word, its A and its B where it has them, and
// *n behind it for n of them.
func opsIn(names []string, text string) []impl.HeapOp {
	var out []impl.HeapOp
	for _, part := range strings.Split(text, "|") {
		part, times, _ := strings.Cut(part, "*")
		words := append(strings.Fields(part), "0", "0")
		op := impl.HeapOp{Kind: slices.Index(names, words[0])}
		op.A, _ = strconv.Atoi(words[1])
		op.B, _ = strconv.Atoi(words[2])
		many, err := strconv.Atoi(strings.TrimSpace(times))
		if err != nil {
			many = 1
		}
		out = append(out, slices.Repeat([]impl.HeapOp{op}, many)...)
	}
	return out
}

// heapOf reads a heap as the tests write it: cells with blanks between, a leaf as its N, a pair as its parts with a
// point between.
func heapOf(cells string, old int, roots ...int) impl.Heap {
	h := impl.Heap{Old: old, Roots: roots}
	for _, word := range strings.Fields(cells) {
		first, second, isPair := strings.Cut(word, ".")
		a, _ := strconv.Atoi(first)
		b, _ := strconv.Atoi(second)
		if isPair {
			h.Cells = append(h.Cells, impl.Cell{A: a, B: b})
		} else {
			h.Cells = append(h.Cells, impl.Cell{Leaf: true, N: a})
		}
	}
	return h
}

// leavesOf is so many leaves, their N counted up from 0.
func leavesOf(many int) []impl.Cell {
	var out []impl.Cell
	for n := range many {
		out = append(out, impl.Cell{Leaf: true, N: n})
	}
	return out
}

func heapsAlike(a impl.Heap, b impl.Heap) bool {
	return a.Old == b.Old && slices.Equal(a.Cells, b.Cells) && slices.Equal(a.Roots, b.Roots)
}

// heap draws a good heap of so many cells.
func (d *dice) heap(many int, roots int) impl.Heap {
	h := impl.Heap{Old: d.below(many + 1)}
	pairs := d.below(4)
	for at := range many {
		if at == 0 || d.below(4) > pairs {
			h.Cells = append(h.Cells, impl.Cell{Leaf: true, N: d.cellInt()})
		} else {
			h.Cells = append(h.Cells, impl.Cell{A: d.below(at), B: d.below(at)})
		}
	}
	for range roots {
		if many > 0 {
			h.Roots = append(h.Roots, d.below(many))
		}
	}
	return h
}

func (d *dice) cellInt() int {
	if d.below(8) == 0 {
		return []int{0, 1, -1, math.MinInt, math.MaxInt, 1 << 32, -1 << 31}[d.below(7)]
	}
	return d.below(200) - 100
}

// heapOps draws ops of which most can be done, as far as the roots are guessed right.
func (d *dice) heapOps(many int) []impl.HeapOp {
	var out []impl.HeapOp
	roots := 0
	drops := d.below(4)
	for range many {
		op := impl.HeapOp{Kind: 1 + d.below(9), A: d.below(roots + 1), B: d.below(roots + 1)}
		if d.below(3) > 0 {
			op.Kind = []int{impl.HeapLeaf, impl.HeapPair, impl.HeapFirst, impl.HeapSecond, impl.HeapShow, impl.HeapShow}[d.below(6)]
		}
		if d.below(8) < drops {
			op.Kind = impl.HeapDrop
		}
		switch op.Kind {
		case impl.HeapLeaf:
			op.A = d.cellInt()
			roots++
		case impl.HeapPair:
			roots++
		case impl.HeapFirst, impl.HeapSecond:
			roots += d.below(2)
		case impl.HeapDrop:
			roots = max(0, roots-1)
		}
		roots = min(roots, 60)
		if d.below(40) == 0 {
			op = impl.HeapOp{Kind: d.below(12) - 1, A: d.cellInt(), B: d.cellInt()}
		}
		out = append(out, op)
	}
	return out
}

// plays asks for what the model comes to, and gives it.
func plays(t *testing.T, l []impl.HeapOp, room int, nursery int) heapPlay {
	t.Helper()
	want := modelPlay(l, room, nursery)
	told, full, ok := impl.PlayHeap(l, room, nursery)
	if told != want.told || full != want.full || !ok {
		t.Errorf("%v\nroom %d, nursery %d: %q, %v, %v; wanted %q, %v, true", l, room, nursery, short(told), full, ok, short(want.told), want.full)
	}
	return want
}

// modelled asks for what the model tells that collects nothing, and gives it.
func modelled(t *testing.T, l []impl.HeapOp) string {
	t.Helper()
	want := modelPlay(l, -1, 0).told
	if told, ok := impl.ModelHeap(l); told != want || !ok {
		t.Errorf("%v\nModelHeap: %q, %v; wanted %q, true", l, short(told), ok, short(want))
	}
	return want
}

// noHeap asks for the zero answer of all functions that take a heap.
func noHeap(t *testing.T, what string, h impl.Heap) {
	t.Helper()
	if impl.GoodHeap(h) {
		t.Errorf("%s: it is good", what)
	}
	if reached, ok := impl.ReachIn(h); len(reached) != 0 || ok {
		t.Errorf("%s: ReachIn: %v, %v", what, reached, ok)
	}
	if got, ok := impl.CollectHeap(h); !heapsAlike(got, impl.Heap{}) || ok {
		t.Errorf("%s: CollectHeap: %v, %v", what, got, ok)
	}
	if got, ok := impl.MinorCollect(h); !heapsAlike(got, impl.Heap{}) || ok {
		t.Errorf("%s: MinorCollect: %v, %v", what, got, ok)
	}
	for _, at := range []int{-1, 0, 1, len(h.Cells) - 1, len(h.Cells), math.MinInt, math.MaxInt} {
		text, ok := impl.ShowCell(h, at)
		refused(t, what+": ShowCell "+strconv.Itoa(at), text, ok)
	}
}

// heapAsModel asks all functions that take a heap for what the model tells of a good one.
func heapAsModel(t *testing.T, h impl.Heap) {
	t.Helper()
	if !impl.GoodHeap(h) {
		t.Errorf("%v is not good", h)
		return
	}
	m := heapModelOf(h)
	if reached, ok := impl.ReachIn(h); !slices.Equal(reached, m.reached()) || !ok {
		t.Errorf("%v: ReachIn: %v, %v; wanted %v", h, reached, ok, m.reached())
	}
	for at, node := range m.cells {
		want, wantOk := node.show()
		if text, ok := impl.ShowCell(h, at); text != want || ok != wantOk {
			t.Errorf("%v: ShowCell %d: %q, %v; wanted %q, %v", h, at, short(text), ok, short(want), wantOk)
		}
	}
	for _, at := range []int{-1, len(h.Cells), len(h.Cells) + 1, math.MinInt, math.MaxInt} {
		text, ok := impl.ShowCell(h, at)
		refused(t, "ShowCell of no cell", text, ok)
	}
	m.collect(m.old)
	if got, ok := impl.MinorCollect(h); !heapsAlike(got, m.heap()) || !ok {
		t.Errorf("%v: MinorCollect: %v, %v; wanted %v", h, got, ok, m.heap())
	}
	m = heapModelOf(h)
	m.collect(0)
	if got, ok := impl.CollectHeap(h); !heapsAlike(got, m.heap()) || !ok {
		t.Errorf("%v: CollectHeap: %v, %v; wanted %v", h, got, ok, m.heap())
	}
}
