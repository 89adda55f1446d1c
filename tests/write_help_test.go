package tests

import (
	"math"
	"slices"
	"strconv"
	"strings"
	"testing"

	"loop.example/g00201/impl"
)

func intsOf(text string) []int {
	var out []int
	for _, word := range strings.Fields(text) {
		n, _ := strconv.Atoi(word)
		out = append(out, n)
	}
	return out
}

// youngOf reads a heap as the tests write it: its cells as heapOf, its roots and notes with blanks between.
func youngOf(cells string, old int, roots string, noted string) impl.Young {
	return impl.Young{Old: old, Cells: heapOf(cells, 0).Cells, Roots: intsOf(roots), Noted: intsOf(noted)}
}

func plainOf(h impl.Young) impl.Heap {
	return impl.Heap{Old: h.Old, Cells: h.Cells, Roots: h.Roots}
}

// youngOfPlain is a heap with nothing noted.
func youngOfPlain(h impl.Heap) impl.Young {
	return impl.Young{Old: h.Old, Cells: h.Cells, Roots: h.Roots}
}

func youngsAlike(a impl.Young, b impl.Young) bool {
	return heapsAlike(plainOf(a), plainOf(b)) && slices.Equal(a.Noted, b.Noted)
}

// mustNote says whether a cell ahead of Old names one that is not.
func mustNote(h impl.Young, at int) bool {
	c := h.Cells[at]
	return !c.Leaf && at < h.Old && (c.A >= h.Old || c.B >= h.Old)
}

// young draws a good heap of so many cells, whose pairs name any cells; some are noted that need not be.
func (d *dice) young(many int, roots int) impl.Young {
	h := impl.Young{Old: d.below(many + 1)}
	pairs := d.below(5)
	for range many {
		if d.below(4) >= pairs {
			h.Cells = append(h.Cells, impl.Cell{Leaf: true, N: d.cellInt()})
		} else {
			h.Cells = append(h.Cells, impl.Cell{A: d.below(many), B: d.below(many)})
		}
	}
	if pairs > 2 && d.below(2) == 0 {
		d.narrow(h)
	}
	for range roots {
		if many > 0 {
			h.Roots = append(h.Roots, d.below(many))
		}
	}
	for at := range h.Old {
		if mustNote(h, at) || d.below(6) == 0 {
			h.Noted = append(h.Noted, at)
		}
	}
	return h
}

// narrow lets most pairs name cells near to them: fewer are reached then.
func (d *dice) narrow(h impl.Young) {
	many := len(h.Cells)
	near := func(at int) int { return min(max(at+d.below(5)-2, 0), many-1) }
	for at := range h.Cells {
		if c := &h.Cells[at]; !c.Leaf && d.below(8) > 0 {
			c.A, c.B = near(at), near(at)
		}
	}
}

// deepText is a node's text with so many pairs about each part.
func (n *heapNode) deepText(deep int) string {
	switch {
	case n.first == nil:
		return strconv.Itoa(n.n)
	case deep == 0:
		return "*"
	}
	return "(" + n.first.deepText(deep-1) + " " + n.second.deepText(deep-1) + ")"
}

func modelGoodYoung(h impl.Young) bool {
	if wrongsIn(plainOf(h), func(int) int { return len(h.Cells) }) > 0 {
		return false
	}
	for at, noted := range h.Noted {
		if noted < 0 || noted >= h.Old || at > 0 && noted <= h.Noted[at-1] {
			return false
		}
	}
	for at := range h.Cells {
		if mustNote(h, at) && !slices.Contains(h.Noted, at) {
			return false
		}
	}
	return true
}

// withPart is what SetPart should answer where the place is a pair and the cell there.
func withPart(h impl.Young, at int, second bool, to int) impl.Young {
	out := impl.Young{Old: h.Old, Cells: slices.Clone(h.Cells), Roots: h.Roots, Noted: slices.Clone(h.Noted)}
	if second {
		out.Cells[at].B = to
	} else {
		out.Cells[at].A = to
	}
	if at < h.Old && to >= h.Old && !slices.Contains(h.Noted, at) {
		out.Noted = append(out.Noted, at)
		slices.Sort(out.Noted)
	}
	return out
}

// youngAsModel asks all functions that take such a heap for what the model tells of a good one.
func youngAsModel(t *testing.T, h impl.Young) {
	t.Helper()
	if !impl.GoodYoung(h) {
		t.Errorf("%v is not good", h)
		return
	}
	m := heapModelOf(plainOf(h))
	if live, ok := impl.LiveIn(h); !slices.Equal(live, m.reached()) || !ok {
		t.Errorf("%v: LiveIn: %v, %v; wanted %v", h, live, ok, m.reached())
	}
	for at, node := range m.cells {
		for deep := range 4 {
			text, ok := impl.ShowDeep(h, at, deep)
			told(t, "ShowDeep", text, ok, node.deepText(deep))
		}
	}
	m.collect(m.old)
	if got, ok := impl.YoungCollect(h); !youngsAlike(got, youngOfPlain(m.heap())) || !ok {
		t.Errorf("%v: YoungCollect: %v, %v; wanted %v", h, got, ok, m.heap())
	}
	m = heapModelOf(plainOf(h))
	m.collect(0)
	if got, ok := impl.FullCollect(h); !youngsAlike(got, youngOfPlain(m.heap())) || !ok {
		t.Errorf("%v: FullCollect: %v, %v; wanted %v", h, got, ok, m.heap())
	}
}

// setAsModel asks SetPart for what it should answer of any two places.
func setAsModel(t *testing.T, h impl.Young, at int, second bool, to int) impl.Young {
	t.Helper()
	many := len(h.Cells)
	want, wantOk := impl.Young{}, false
	if at >= 0 && at < many && to >= 0 && to < many && !h.Cells[at].Leaf {
		want, wantOk = withPart(h, at, second, to), true
	}
	got, ok := impl.SetPart(h, at, second, to)
	if !youngsAlike(got, want) || ok != wantOk {
		t.Errorf("%v: SetPart %d %v %d: %v, %v; wanted %v, %v", h, at, second, to, got, ok, want, wantOk)
	}
	return want
}

// noYoung asks for the zero answer of all functions that take such a heap.
func noYoung(t *testing.T, what string, h impl.Young) {
	t.Helper()
	if impl.GoodYoung(h) {
		t.Errorf("%s: it is good", what)
	}
	if live, ok := impl.LiveIn(h); len(live) != 0 || ok {
		t.Errorf("%s: LiveIn: %v, %v", what, live, ok)
	}
	if got, ok := impl.FullCollect(h); !youngsAlike(got, impl.Young{}) || ok {
		t.Errorf("%s: FullCollect: %v, %v", what, got, ok)
	}
	if got, ok := impl.YoungCollect(h); !youngsAlike(got, impl.Young{}) || ok {
		t.Errorf("%s: YoungCollect: %v, %v", what, got, ok)
	}
	places := []int{-1, 0, 1, len(h.Cells) - 1, len(h.Cells), math.MinInt, math.MaxInt}
	for _, at := range places {
		for _, n := range places {
			if got, ok := impl.SetPart(h, at, n > 0, n); !youngsAlike(got, impl.Young{}) || ok {
				t.Errorf("%s: SetPart %d %d: %v, %v", what, at, n, got, ok)
			}
			text, ok := impl.ShowDeep(h, at, n)
			refused(t, what+": ShowDeep", text, ok)
		}
	}
}

// writeOpNames are the words by which the tests write ops, each at its kind.
var writeOpNames = []string{"", "leaf", "pair", "first", "second", "drop", "show", "setfirst", "setsecond", "same", "collect", "minor"}

func writesOf(text string) []impl.HeapOp { return opsIn(writeOpNames, text) }

// asHeapOp is the op of chapter 7 that does the same, one of no kind where none does.
func asHeapOp(op impl.HeapOp) impl.HeapOp {
	kinds := map[int]int{
		impl.WriteLeaf: impl.HeapLeaf, impl.WritePair: impl.HeapPair, impl.WriteFirst: impl.HeapFirst, impl.WriteSecond: impl.HeapSecond,
		impl.WriteDrop: impl.HeapDrop, impl.WriteSame: impl.HeapSame, impl.WriteCollect: impl.HeapCollect, impl.WriteMinor: impl.HeapMinor,
	}
	op.Kind = kinds[op.Kind]
	return op
}

// modelWrites does ops; without collecting where room is below 0. No node of the model is noted: its young cells stay
// where any old one reaches them, be it noted or not.
func modelWrites(l []impl.HeapOp, room int, nursery int) heapPlay {
	m, p := &heapModel{}, heapPlay{}
	for _, op := range l {
		a, b := m.root(op.A), m.root(op.B)
		switch {
		case op.Kind == impl.WriteShow && a != nil:
			p.told += a.deepText(4) + "\n"
		case op.Kind == impl.WriteSetFirst && a != nil && b != nil && a.first != nil:
			a.first = b
		case op.Kind == impl.WriteSetSecond && a != nil && b != nil && a.first != nil:
			a.second = b
		default:
			if p.full = !m.play(asHeapOp(op), room, nursery); p.full {
				return p
			}
			p.told += m.tell(asHeapOp(op))
		}
	}
	return p
}

// playsWrites asks for what the model comes to, and gives it.
func playsWrites(t *testing.T, l []impl.HeapOp, room int, nursery int) heapPlay {
	t.Helper()
	want := modelWrites(l, room, nursery)
	told, full, ok := impl.PlayWrites(l, room, nursery)
	if told != want.told || full != want.full || !ok {
		t.Errorf("%v\nroom %d, nursery %d: %q, %v, %v; wanted %q, %v, true", l, room, nursery, short(told), full, ok, short(want.told), want.full)
	}
	return want
}

// modelledWrites asks for what the model tells that collects nothing, and gives it.
func modelledWrites(t *testing.T, l []impl.HeapOp) string {
	t.Helper()
	want := modelWrites(l, -1, 0).told
	if told, ok := impl.ModelWrites(l); told != want || !ok {
		t.Errorf("%v\nModelWrites: %q, %v; wanted %q, true", l, short(told), ok, short(want))
	}
	return want
}

// noWrites asks for the zero answer.
func noWrites(t *testing.T, l []impl.HeapOp, room int, nursery int) {
	t.Helper()
	if told, full, ok := impl.PlayWrites(l, room, nursery); told != "" || full || ok {
		t.Errorf("%d ops, room %d, nursery %d: %q, %v, %v; wanted the zero answer", len(l), room, nursery, told, full, ok)
	}
}

// writeOps draws ops of which most can be done, as far as the roots are guessed right.
func (d *dice) writeOps(many int) []impl.HeapOp {
	var out []impl.HeapOp
	roots := 0
	drops := d.below(4)
	for range many {
		op := impl.HeapOp{Kind: 1 + d.below(11), A: d.below(roots + 1), B: d.below(roots + 1)}
		if d.below(3) > 0 {
			op.Kind = []int{impl.WriteLeaf, impl.WritePair, impl.WriteFirst, impl.WriteSecond, impl.WriteShow, impl.WriteSetFirst, impl.WriteSetSecond}[d.below(7)]
		}
		if d.below(8) < drops {
			op.Kind = impl.WriteDrop
		}
		switch op.Kind {
		case impl.WriteLeaf:
			op.A = d.cellInt()
			roots++
		case impl.WritePair:
			roots++
		case impl.WriteFirst, impl.WriteSecond:
			roots += d.below(2)
		case impl.WriteDrop:
			roots = max(0, roots-1)
		}
		roots = min(roots, 60)
		if d.below(40) == 0 {
			op = impl.HeapOp{Kind: d.below(14) - 1, A: d.cellInt(), B: d.cellInt()}
		}
		out = append(out, op)
	}
	return out
}
