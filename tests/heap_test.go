package tests

import (
	"math"
	"slices"
	"strconv"
	"strings"
	"testing"
	"time"

	"loop.example/g00201/impl"
)

// Each condition of a good heap, where it just holds.
func TestGoodHeaps(t *testing.T) {
	full := leavesOf(impl.MaxCells)
	lastPair := append(leavesOf(impl.MaxCells-1), impl.Cell{A: 0, B: impl.MaxCells - 2})
	for what, h := range map[string]impl.Heap{
		"nothing":             {},
		"empty lists":         {Cells: []impl.Cell{}, Roots: []int{}},
		"all cells":           {Cells: full},
		"Old in the middle":   {Cells: full, Old: 77},
		"Old at the end":      {Cells: full, Old: impl.MaxCells},
		"last root":           {Cells: full, Roots: []int{impl.MaxCells - 1, 0}},
		"last pair":           {Cells: lastPair, Roots: []int{impl.MaxCells - 1}},
		"60 roots":            {Cells: leavesOf(3), Roots: slices.Repeat([]int{2, 0, 1, 1, 1, 2}, 10)},
		"60 roots of 1 cell":  {Cells: leavesOf(1), Roots: make([]int, 60)},
		"all of all":          {Cells: lastPair, Roots: slices.Repeat([]int{impl.MaxCells - 1, 5}, 30), Old: impl.MaxCells},
		"N of any size":       {Cells: []impl.Cell{{Leaf: true, N: math.MinInt}, {Leaf: true, N: math.MaxInt}, {Leaf: true, N: -1}, {Leaf: true}}},
		"parts that are one":  heapOf("5 0.0", 0, 1),
		"a pair of pairs":     heapOf("5 0.0 1.1 1.2 3.0", 2, 4, 4),
		"a part just ahead":   heapOf("5 6 7 2.0 0.3", 1, 1),
		"one leaf and Old 1":  heapOf("5", 1),
		"roots that none has": heapOf("5 6 0.1", 0),
	} {
		if !impl.GoodHeap(h) {
			t.Errorf("%s: it is not good", what)
			continue
		}
		heapAsModel(t, h)
	}
}

// Each condition of a good heap, where it just does not hold.
func TestHeapsThatAreNotGood(t *testing.T) {
	leaf := impl.Cell{Leaf: true, N: 7}
	with := func(cells ...impl.Cell) impl.Heap { return impl.Heap{Cells: cells} }
	for what, h := range map[string]impl.Heap{
		"a cell too many":                {Cells: leavesOf(impl.MaxCells + 1)},
		"cells too many and reached":     {Cells: leavesOf(impl.MaxCells + 1), Roots: []int{0, impl.MaxCells}, Old: 1},
		"a root too many":                {Cells: leavesOf(3), Roots: slices.Repeat([]int{0}, 61)},
		"Old below 0":                    {Cells: leavesOf(3), Old: -1, Roots: []int{1}},
		"Old one more":                   {Cells: leavesOf(3), Old: 4, Roots: []int{1}},
		"Old of no cells":                {Old: 1},
		"Old below 0 of no cells":        {Old: -1},
		"the least Old":                  {Cells: leavesOf(3), Old: math.MinInt},
		"the greatest Old":               {Cells: leavesOf(3), Old: math.MaxInt},
		"a leaf with A":                  with(leaf, leaf, impl.Cell{Leaf: true, N: 7, A: 1}),
		"a leaf with B":                  with(leaf, leaf, impl.Cell{Leaf: true, N: 7, B: 1}),
		"a leaf with A below 0":          with(impl.Cell{Leaf: true, A: -1}),
		"a leaf with B below 0":          with(impl.Cell{Leaf: true, B: -1}),
		"a leaf with A and B":            with(leaf, leaf, impl.Cell{Leaf: true, A: 1, B: 1}),
		"a pair with N":                  with(leaf, leaf, impl.Cell{A: 0, B: 1, N: 1}),
		"a pair with N below 0":          with(leaf, leaf, impl.Cell{A: 0, B: 1, N: -1}),
		"a first part that is the pair":  with(leaf, leaf, impl.Cell{A: 2, B: 1}),
		"a second part that is the pair": with(leaf, leaf, impl.Cell{A: 1, B: 2}),
		"a first part behind":            with(leaf, leaf, impl.Cell{A: 3, B: 1}, leaf),
		"a second part behind":           with(leaf, leaf, impl.Cell{A: 1, B: 3}, leaf),
		"a first part below 0":           with(leaf, leaf, impl.Cell{A: -1, B: 1}),
		"a second part below 0":          with(leaf, leaf, impl.Cell{A: 1, B: -1}),
		"the least part":                 with(leaf, leaf, impl.Cell{A: math.MinInt, B: 1}),
		"the greatest part":              with(leaf, leaf, impl.Cell{A: 1, B: math.MaxInt}),
		"a pair that is the only cell":   with(impl.Cell{}),
		"a pair ahead of all":            with(impl.Cell{A: 1, B: 1}, leaf),
		"a root below 0":                 {Cells: leavesOf(3), Roots: []int{0, -1}},
		"a root one more":                {Cells: leavesOf(3), Roots: []int{3, 0}},
		"the least root":                 {Cells: leavesOf(3), Roots: []int{math.MinInt}},
		"the greatest root":              {Cells: leavesOf(3), Roots: []int{math.MaxInt}},
		"a root of no cells":             {Roots: []int{0}},
		"a ring of pairs":                with(leaf, impl.Cell{A: 2, B: 2}, impl.Cell{A: 1, B: 1}),
	} {
		noHeap(t, what, h)
	}
	// What an unreachable cell ahead of Old names from Old on is behind it: such a pair is not good.
	noHeap(t, "an old pair of a young cell", heapOf("5 2.0 6", 2))
}

// heapCase is a heap, what of it is reached, and what collecting it leaves, all of it and the young cells alone.
type heapCase struct {
	what    string
	heap    impl.Heap
	reached []int
	full    impl.Heap
	minor   impl.Heap
}

var heapCases = []heapCase{
	{"nothing", impl.Heap{}, nil, impl.Heap{}, impl.Heap{}},
	{"no roots, Old 0", heapOf("5 6 0.1", 0), nil, impl.Heap{}, impl.Heap{}},
	{"no roots, Old in the middle", heapOf("5 6 0.1", 1), nil, impl.Heap{}, heapOf("5", 1)},
	{"no roots, Old at the end", heapOf("5 6 0.1", 3), nil, impl.Heap{}, heapOf("5 6 0.1", 3)},
	{"all reached, Old 0", heapOf("5 6 0.1", 0, 2), []int{0, 1, 2}, heapOf("5 6 0.1", 3, 2), heapOf("5 6 0.1", 3, 2)},
	{"all reached, Old at the end", heapOf("5 6 0.1", 3, 2), []int{0, 1, 2}, heapOf("5 6 0.1", 3, 2), heapOf("5 6 0.1", 3, 2)},
	{"roots that name one cell twice", heapOf("4 5 6", 0, 1, 1), []int{1}, heapOf("5", 1, 0, 0), heapOf("5", 1, 0, 0)},
	{"roots are not ordered", heapOf("4 5 6 7", 0, 3, 1), []int{1, 3}, heapOf("5 7", 2, 1, 0), heapOf("5 7", 2, 1, 0)},
	{"a cell by two ways", heapOf("9 5 6 1.1 1.3", 0, 4), []int{1, 3, 4}, heapOf("5 0.0 0.1", 3, 2), heapOf("5 0.0 0.1", 3, 2)},
	{"a root that is a part too", heapOf("9 5 1.1 8", 0, 2, 1), []int{1, 2}, heapOf("5 0.0", 2, 1, 0), heapOf("5 0.0", 2, 1, 0)},
	{"first parts alone", heapOf("1 2 3 2.0 8", 0, 3), []int{0, 2, 3}, heapOf("1 3 1.0", 3, 2), heapOf("1 3 1.0", 3, 2)},
	{"gaps, Old 0", heapOf("1 2 3 4 1.3 0.2 4.1 7", 0, 6), []int{1, 3, 4, 6}, heapOf("2 4 0.1 2.0", 4, 3), heapOf("2 4 0.1 2.0", 4, 3)},
	{"gaps, Old 3", heapOf("1 2 3 4 1.3 0.2 4.1 7", 3, 6), []int{1, 3, 4, 6}, heapOf("2 4 0.1 2.0", 4, 3), heapOf("1 2 3 4 1.3 4.1", 6, 5)},
	{"gaps, Old 6", heapOf("1 2 3 4 1.3 0.2 4.1 7", 6, 6), []int{1, 3, 4, 6}, heapOf("2 4 0.1 2.0", 4, 3), heapOf("1 2 3 4 1.3 0.2 4.1", 7, 6)},
	{"gaps, Old at the end", heapOf("1 2 3 4 1.3 0.2 4.1 7", 8, 6), []int{1, 3, 4, 6}, heapOf("2 4 0.1 2.0", 4, 3), heapOf("1 2 3 4 1.3 0.2 4.1 7", 8, 6)},
	{"an old cell that none reaches stays with its parts", heapOf("1 2 0.0 3 4", 3, 4), []int{4}, heapOf("4", 1, 0), heapOf("1 2 0.0 4", 4, 3)},
	{"young pairs name old ones", heapOf("1 2 0.1 2.2 2.0", 3, 4), []int{0, 1, 2, 4}, heapOf("1 2 0.1 2.0", 4, 3), heapOf("1 2 0.1 2.0", 4, 3)},
	{"a young cell that only a young one names which goes", heapOf("1 2 3 1.2 4", 1, 4), []int{4}, heapOf("4", 1, 0), heapOf("1 4", 2, 1)},
	{"an old leaf of noughts", heapOf("7 0 0 8", 0, 2, 3), []int{2, 3}, heapOf("0 8", 2, 0, 1), heapOf("0 8", 2, 0, 1)},
}

// What is reached, and what collecting leaves: in order, with new numbers.
func TestCollectedHeaps(t *testing.T) {
	for _, c := range heapCases {
		heapAsModel(t, c.heap)
		if reached, ok := impl.ReachIn(c.heap); !slices.Equal(reached, c.reached) || !ok {
			t.Errorf("%s: ReachIn: %v, %v; wanted %v", c.what, reached, ok, c.reached)
		}
		if got, ok := impl.CollectHeap(c.heap); !heapsAlike(got, c.full) || !ok {
			t.Errorf("%s: CollectHeap: %v, %v; wanted %v", c.what, got, ok, c.full)
		}
		if got, ok := impl.MinorCollect(c.heap); !heapsAlike(got, c.minor) || !ok {
			t.Errorf("%s: MinorCollect: %v, %v; wanted %v", c.what, got, ok, c.minor)
		}
	}
}

// shows tells what roots show, those that are too long too.
func shows(h impl.Heap) []string {
	var out []string
	for _, root := range h.Roots {
		text, ok := impl.ShowCell(h, root)
		out = append(out, text+strconv.FormatBool(ok))
	}
	return out
}

// Promise 7 of drawn heaps: what is left is what is reached, and nobody sees that the rest went.
func TestDrawnHeaps(t *testing.T) {
	d := &dice{state: 701}
	went, stayed := 0, 0
	for n := range 4000 {
		many := d.below(14)
		if n%20 == 0 {
			many = d.below(impl.MaxCells + 1)
		}
		h := d.heap(many, d.below(6))
		if n%50 == 0 {
			h = d.heap(many, d.below(61))
		}
		heapAsModel(t, h)
		reached, _ := impl.ReachIn(h)
		full, _ := impl.CollectHeap(h)
		minor, _ := impl.MinorCollect(h)
		went += len(h.Cells) - len(full.Cells)
		stayed += len(minor.Cells) - len(full.Cells)
		if len(full.Cells) != len(reached) || len(minor.Cells) < len(full.Cells) || len(minor.Cells) < h.Old {
			t.Errorf("%v: %d are reached, %d left, %d left of the young ones", h, len(reached), len(full.Cells), len(minor.Cells))
		}
		for _, left := range []impl.Heap{full, minor} {
			heapAsModel(t, left)
			if left.Old != len(left.Cells) || !slices.Equal(shows(left), shows(h)) {
				t.Errorf("%v: the roots show %v, in %v %v", h, shows(h), left, shows(left))
			}
			if again, ok := impl.MinorCollect(left); !heapsAlike(again, left) || !ok {
				t.Errorf("%v: MinorCollect of what was collected: %v, %v", left, again, ok)
			}
		}
		for _, left := range []impl.Heap{full, minor} {
			if again, ok := impl.CollectHeap(left); !heapsAlike(again, full) || !ok {
				t.Errorf("%v: CollectHeap of what was collected: %v, %v", left, again, ok)
			}
		}
	}
	if went < 4000 || stayed < 4000 {
		t.Errorf("only %d cells went, only %d stayed that none reaches", went, stayed)
	}
}

func TestShowCell(t *testing.T) {
	h := impl.Heap{Cells: []impl.Cell{
		{Leaf: true}, {Leaf: true, N: 7}, {Leaf: true, N: -7}, {Leaf: true, N: math.MinInt}, {Leaf: true, N: math.MaxInt}, {Leaf: true, N: 1000},
		{A: 0, B: 1}, {A: 6, B: 2}, {A: 2, B: 6}, {A: 7, B: 8}, {A: 3, B: 4}, {A: 5, B: 5},
	}}
	for at, want := range []string{
		"0", "7", "-7", "-9223372036854775808", "9223372036854775807", "1000",
		"(0 7)", "((0 7) -7)", "(-7 (0 7))", "(((0 7) -7) (-7 (0 7)))", "(-9223372036854775808 9223372036854775807)", "(1000 1000)",
	} {
		text, ok := impl.ShowCell(h, at)
		told(t, "ShowCell "+strconv.Itoa(at), text, ok, want)
	}
	for _, at := range append(wrongInts(), len(h.Cells), len(h.Cells)+1) {
		text, ok := impl.ShowCell(h, at)
		refused(t, "ShowCell "+strconv.Itoa(at), text, ok)
	}
	heapAsModel(t, h)
}

// chain is a heap whose last cell is shown in n+4p bytes, n those of its first leaf.
func chain(leaf int, pairs int, left bool) impl.Heap {
	h := impl.Heap{Cells: []impl.Cell{{Leaf: true, N: leaf}, {Leaf: true, N: 3}}}
	before := 0
	for range pairs {
		if left {
			h.Cells = append(h.Cells, impl.Cell{A: before, B: 1})
		} else {
			h.Cells = append(h.Cells, impl.Cell{A: 1, B: before})
		}
		before = len(h.Cells) - 1
	}
	return h
}

// Texts of just 500 bytes are told, those of 501 are not.
func TestShowCellEdge(t *testing.T) {
	for _, left := range []bool{false, true} {
		for _, c := range []struct {
			leaf  int
			pairs int
			bytes int
		}{{1000, 124, 500}, {-999, 124, 500}, {999, 124, 499}, {10000, 124, 501}, {-1000, 124, 501}, {1, 125, 501}, {1000, 125, 504}, {math.MinInt, 120, 500}, {math.MinInt, 121, 504}, {5, 198, 793}} {
			h := chain(c.leaf, c.pairs, left)
			text, ok := impl.ShowCell(h, len(h.Cells)-1)
			want := strings.Repeat("(", c.pairs) + strconv.Itoa(c.leaf) + strings.Repeat(" 3)", c.pairs)
			if !left {
				want = strings.Repeat("(3 ", c.pairs) + strconv.Itoa(c.leaf) + strings.Repeat(")", c.pairs)
			}
			if len(want) != c.bytes {
				t.Errorf("%+v: a chain of %d bytes", c, len(want))
			}
			if c.bytes > 500 {
				refused(t, strconv.Itoa(c.bytes)+" bytes", text, ok)
			} else {
				told(t, strconv.Itoa(c.bytes)+" bytes", text, ok, want)
			}
			heapAsModel(t, h)
		}
	}
	// Bytes are counted of this cell's text alone: others ahead of it may be longer.
	h := heapOf("1 0.0 1.1 2.2 3.3 4.4 5.5 6.6 7.7 0.0", 0)
	text, ok := impl.ShowCell(h, 9)
	told(t, "the last of many", text, ok, "(1 1)")
	heapAsModel(t, h)
}

// doubled is a heap of all cells, each pair of one cell twice, the one just ahead of it.
func doubled() impl.Heap {
	h := impl.Heap{Cells: []impl.Cell{{Leaf: true, N: 1}}}
	for at := range impl.MaxCells - 1 {
		h.Cells = append(h.Cells, impl.Cell{A: at, B: at})
	}
	return h
}

// What names one cell twice, two hundred cells deep, has a text that nobody could write; it is answered at once.
func TestDoubledHeap(t *testing.T) {
	inTime(t, 10*time.Second, func() {
		h := doubled()
		heapAsModel(t, h)
		for at := range h.Cells {
			text, ok := impl.ShowCell(h, at)
			if ok != (at <= 6) || ok != (text != "") {
				t.Errorf("ShowCell %d: %q, %v", at, short(text), ok)
			}
			h.Old, h.Roots = at, []int{at, at}
			heapAsModel(t, h)
			if reached, ok := impl.ReachIn(h); len(reached) != at+1 || !ok {
				t.Errorf("from %d only %v are reached", at, reached)
			}
		}
	})
}
