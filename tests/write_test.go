package tests

import (
	"math"
	"slices"
	"strconv"
	"strings"
	"testing"

	"loop.example/g00201/impl"
)

// ringOf is so many pairs, each of the next one and the one ahead of it.
func ringOf(many int) []impl.Cell {
	var out []impl.Cell
	for at := range many {
		out = append(out, impl.Cell{A: (at + 1) % many, B: (at + many - 1) % many})
	}
	return out
}

func countedTo(many int) []int {
	var out []int
	for n := range many {
		out = append(out, n)
	}
	return out
}

// Each condition of a good heap, where it just holds.
func TestGoodYoungs(t *testing.T) {
	ring := ringOf(impl.MaxCells)
	for what, h := range map[string]impl.Young{
		"nothing":                       {},
		"empty lists":                   {Cells: []impl.Cell{}, Roots: []int{}, Noted: []int{}},
		"a pair of itself":              youngOf("0.0", 0, "0", ""),
		"an old pair of itself":         youngOf("0.0", 1, "0", ""),
		"a pair of younger cells":       youngOf("1.2 5 6", 0, "0", ""),
		"an old pair of younger ones":   youngOf("1.2 5 6", 3, "0", ""),
		"a ring of two pairs":           youngOf("1.1 0.0", 0, "", ""),
		"a first part noted":            youngOf("1.0 5", 1, "0", "0"),
		"a second part noted":           youngOf("0.1 5", 1, "0", "0"),
		"a noted leaf":                  youngOf("5 6", 1, "", "0"),
		"a noted pair of old ones":      youngOf("0.1 6 7", 2, "1", "0"),
		"all of them noted":             youngOf("5 6 0.1 3.4 8", 4, "", "0 1 2 3"),
		"the last old one noted":        youngOf("5 2.0 6", 2, "", "1"),
		"young pairs of old ones":       youngOf("5 0.0 1.0", 1, "2", ""),
		"young pairs of young ones":     youngOf("5 2.2 1.3 9", 1, "1", ""),
		"Old 0":                         {Cells: ring},
		"Old at the end":                {Cells: ring, Old: impl.MaxCells},
		"Old one ahead of the end":      {Cells: ring, Old: impl.MaxCells - 1, Noted: []int{0, impl.MaxCells - 2}},
		"Old in the middle":             {Cells: ring, Old: 77, Noted: []int{0, 76}, Roots: []int{5}},
		"all cells noted":               {Cells: ring, Old: impl.MaxCells, Noted: countedTo(impl.MaxCells)},
		"all leaves noted":              {Cells: leavesOf(impl.MaxCells), Old: impl.MaxCells, Noted: countedTo(impl.MaxCells)},
		"60 roots":                      {Cells: ring, Roots: slices.Repeat([]int{impl.MaxCells - 1, 0, 0, 7, 0, 0}, 10), Old: 1, Noted: []int{0}},
		"60 roots of one pair":          {Cells: ringOf(1), Roots: make([]int, 60)},
		"N of any size":                 {Cells: []impl.Cell{{Leaf: true, N: math.MinInt}, {Leaf: true, N: math.MaxInt}, {Leaf: true}}, Old: 2, Noted: []int{0}},
		"one pair of all, and all old":  {Cells: append(leavesOf(impl.MaxCells-1), impl.Cell{A: impl.MaxCells - 1}), Old: impl.MaxCells},
		"an unnoted old pair of itself": youngOf("0.0 5", 1, "", ""),
	} {
		if !impl.GoodYoung(h) {
			t.Errorf("%s: it is not good", what)
			continue
		}
		youngAsModel(t, h)
	}
}

// Each condition of a good heap, where it just does not hold.
func TestYoungsThatAreNotGood(t *testing.T) {
	with := func(cells ...impl.Cell) impl.Young { return impl.Young{Cells: cells} }
	leaf := impl.Cell{Leaf: true, N: 7}
	for what, h := range map[string]impl.Young{
		"a cell too many":                   {Cells: leavesOf(impl.MaxCells + 1)},
		"a pair too many":                   {Cells: ringOf(impl.MaxCells + 1)},
		"a root too many":                   {Cells: leavesOf(3), Roots: make([]int, 61)},
		"Old below 0":                       {Cells: leavesOf(3), Old: -1},
		"Old one more":                      {Cells: leavesOf(3), Old: 4},
		"Old of no cells":                   {Old: 1},
		"the least Old":                     {Cells: leavesOf(3), Old: math.MinInt},
		"the greatest Old":                  {Cells: leavesOf(3), Old: math.MaxInt, Noted: []int{0}},
		"a leaf with A":                     with(leaf, impl.Cell{Leaf: true, N: 7, A: 1}),
		"a leaf with B":                     with(leaf, impl.Cell{Leaf: true, N: 7, B: 1}),
		"a leaf with parts below 0":         with(leaf, impl.Cell{Leaf: true, N: 7, A: -1, B: -1}),
		"a pair with N":                     with(leaf, impl.Cell{N: 1}),
		"a pair with N below 0":             with(leaf, impl.Cell{N: -1}),
		"a first part below 0":              with(leaf, impl.Cell{A: -1}),
		"a second part below 0":             with(leaf, impl.Cell{B: -1}),
		"a first part one more":             with(leaf, impl.Cell{A: 2}),
		"a second part one more":            with(leaf, impl.Cell{B: 2}),
		"the least part":                    with(leaf, impl.Cell{A: math.MinInt}),
		"the greatest part":                 with(leaf, impl.Cell{B: math.MaxInt}),
		"a root below 0":                    {Cells: leavesOf(3), Roots: []int{0, -1}},
		"a root one more":                   {Cells: leavesOf(3), Roots: []int{3, 0}},
		"a root of no cells":                {Roots: []int{0}},
		"an old pair, its first not noted":  youngOf("1.0 5", 1, "0", ""),
		"an old pair, its second not noted": youngOf("0.1 5", 1, "0", ""),
		"an old pair that none reaches":     youngOf("5 2.0 6", 2, "", ""),
		"one of two old pairs not noted":    youngOf("2.2 2.2 6", 2, "0 1", "0"),
		"the other of two not noted":        youngOf("2.2 2.2 6", 2, "0 1", "1"),
		"a leaf noted in place of a pair":   youngOf("5 2.2 6", 2, "0 1", "0"),
		"notes that fall":                   youngOf("5 6 7", 3, "", "1 0"),
		"notes that rise and fall":          youngOf("5 6 7", 3, "", "0 2 1"),
		"a note that stands twice":          youngOf("5 6 7", 3, "", "1 1"),
		"the first note twice":              youngOf("0.2 6 7", 2, "", "0 0"),
		"the last note twice":               youngOf("5 6 7", 3, "", "0 2 2"),
		"a note at Old":                     youngOf("5 6 7", 2, "", "0 2"),
		"a note behind Old":                 youngOf("5 6 7", 1, "", "2"),
		"a young pair of young ones noted":  youngOf("5 2.2 7", 1, "", "1"),
		"a note with Old 0":                 youngOf("5 6 7", 0, "", "0"),
		"a note of no cell":                 youngOf("5 6 7", 3, "", "3"),
		"a note below 0":                    youngOf("5 6 7", 3, "", "-1"),
		"a note below 0 ahead of others":    youngOf("5 6 7", 3, "", "-1 0 1"),
		"the least note":                    {Cells: leavesOf(3), Old: 3, Noted: []int{math.MinInt}},
		"the greatest note":                 {Cells: leavesOf(3), Old: 3, Noted: []int{math.MaxInt}},
		"a note of nothing":                 {Noted: []int{0}},
		"a note too many":                   {Cells: leavesOf(impl.MaxCells), Old: impl.MaxCells, Noted: countedTo(impl.MaxCells + 1)},
		"Old beyond, and noted there":       {Cells: leavesOf(2), Old: 3, Noted: []int{2}},
	} {
		noYoung(t, what, h)
	}
}

// youngCase is a heap, what of it is reached, and what collecting it leaves, all of it and the young cells alone.
type youngCase struct {
	what  string
	heap  impl.Young
	live  []int
	full  impl.Young
	young impl.Young
}

var youngCases = []youngCase{
	{"nothing", impl.Young{}, nil, impl.Young{}, impl.Young{}},
	{"no root", youngOf("5 6 0.1", 0, "", ""), nil, impl.Young{}, impl.Young{}},
	{"no root, Old in the middle", youngOf("5 6 0.1", 1, "", ""), nil, impl.Young{}, youngOf("5", 1, "", "")},
	{"no root, Old at the end", youngOf("5 6 2.1", 3, "", "0 2"), nil, impl.Young{}, youngOf("5 6 2.1", 3, "", "")},
	{"a pair of itself", youngOf("9 1.1 8", 0, "1", ""), intsOf("1"), youngOf("0.0", 1, "0", ""), youngOf("0.0", 1, "0", "")},
	{"a pair of itself that none reaches", youngOf("9 1.1 8", 0, "2", ""), intsOf("2"), youngOf("8", 1, "0", ""), youngOf("8", 1, "0", "")},
	{"a ring", youngOf("7 2.4 4.1 8 1.2", 0, "4", ""), intsOf("1 2 4"), youngOf("1.2 2.0 0.1", 3, "2", ""), youngOf("1.2 2.0 0.1", 3, "2", "")},
	{"a ring that none reaches", youngOf("7 2.4 4.1 8 1.2", 0, "3 0 3", ""), intsOf("0 3"), youngOf("7 8", 2, "1 0 1", ""), youngOf("7 8", 2, "1 0 1", "")},
	{"a ring that goes, with what it names", youngOf("7 2.4 1.1 8 3", 0, "3", ""), intsOf("3"), youngOf("8", 1, "0", ""), youngOf("8", 1, "0", "")},
	{"an old ring that none reaches", youngOf("1.1 0.2 5 6", 3, "3", ""), intsOf("3"), youngOf("6", 1, "0", ""), youngOf("1.1 0.2 5 6", 4, "3", "")},
	{"a ring over Old", youngOf("9 3.1 8 1.3", 2, "3", "1"), intsOf("1 3"), youngOf("1.0 0.1", 2, "1", ""), youngOf("9 2.1 1.2", 3, "2", "")},
	{"a ring over Old that none reaches", youngOf("9 3.1 8 1.3", 2, "0", "1"), intsOf("0"), youngOf("9", 1, "0", ""), youngOf("9 2.1 1.2", 3, "0", "")},
	{"a cell by two ways", youngOf("3.2 9 3.3 5", 0, "0", ""), intsOf("0 2 3"), youngOf("2.1 2.2 5", 3, "0", ""), youngOf("2.1 2.2 5", 3, "0", "")},
	{"roots twice", youngOf("4 2.2 6 1.1", 0, "1 2 1", ""), intsOf("1 2"), youngOf("1.1 6", 2, "0 1 0", ""), youngOf("1.1 6", 2, "0 1 0", "")},
	{"younger parts", youngOf("8 3.5 8 5.5 8 6", 0, "1", ""), intsOf("1 3 5"), youngOf("1.2 2.2 6", 3, "0", ""), youngOf("1.2 2.2 6", 3, "0", "")},
	{"an old cell that none reaches, with its note", youngOf("3.0 7 8 9", 2, "1", "0"), intsOf("1"), youngOf("7", 1, "0", ""), youngOf("2.0 7 9", 3, "1", "")},
	{"what a note reaches from there on", youngOf("3.0 7 8 4.5 9 10 11", 2, "", "0"), nil, impl.Young{}, youngOf("2.0 7 3.4 9 10", 5, "", "")},
	{"a note's second part", youngOf("0.3 7 8 9 10", 2, "4", "0"), intsOf("4"), youngOf("10", 1, "0", ""), youngOf("0.2 7 9 10", 4, "3", "")},
	{"an old root's parts", youngOf("1.1 3.0 8 9", 2, "0", "1"), intsOf("0 1 3"), youngOf("1.1 2.0 9", 3, "0", ""), youngOf("1.1 2.0 9", 3, "0", "")},
	{"a young cell by old cells alone", youngOf("1.1 2.2 4.4 7 8", 3, "0", "2"), intsOf("0 1 2 4"), youngOf("1.1 2.2 3.3 8", 4, "0", ""), youngOf("1.1 2.2 3.3 8", 4, "0", "")},
	{"a young cell by an old one behind a young one", youngOf("3.3 7 0.0 8 9", 2, "2", "0"), intsOf("0 2 3"), youngOf("2.2 0.0 8", 3, "1", ""), youngOf("3.3 7 0.0 8", 4, "2", "")},
	{"a noted leaf", youngOf("5 6 7", 2, "", "1"), nil, impl.Young{}, youngOf("5 6", 2, "", "")},
	{"a noted leaf and a noted pair", youngOf("5 3.0 7 8", 2, "0", "0 1"), intsOf("0"), youngOf("5", 1, "0", ""), youngOf("5 2.0 8", 3, "0", "")},
	{"a noted pair of old cells", youngOf("1.1 5 0.0 6", 2, "3", "0"), intsOf("3"), youngOf("6", 1, "0", ""), youngOf("1.1 5 6", 3, "2", "")},
	{"notes at Old 1 of all", youngOf("2.3 7 8 9", 1, "0", "0"), intsOf("0 2 3"), youngOf("1.2 8 9", 3, "0", ""), youngOf("1.2 8 9", 3, "0", "")},
	{"numbers behind those that go", youngOf("7 8 0.1 9 2.5 3", 1, "4 5", ""), intsOf("0 1 2 4 5"), youngOf("7 8 0.1 2.4 3", 5, "3 4", ""), youngOf("7 8 0.1 2.4 3", 5, "3 4", "")},
}

// What is reached, and what collecting leaves: in order, with new numbers, and nothing noted.
func TestCollectedYoungs(t *testing.T) {
	for _, c := range youngCases {
		youngAsModel(t, c.heap)
		if live, ok := impl.LiveIn(c.heap); !slices.Equal(live, c.live) || !ok {
			t.Errorf("%s: LiveIn: %v, %v; wanted %v", c.what, live, ok, c.live)
		}
		if got, ok := impl.FullCollect(c.heap); !youngsAlike(got, c.full) || !ok {
			t.Errorf("%s: FullCollect: %v, %v; wanted %v", c.what, got, ok, c.full)
		}
		if got, ok := impl.YoungCollect(c.heap); !youngsAlike(got, c.young) || !ok {
			t.Errorf("%s: YoungCollect: %v, %v; wanted %v", c.what, got, ok, c.young)
		}
	}
}

// A young cell stays by a note of an old pair; such a pair that is not noted makes no good heap.
func TestYoungCollectNeedsNotes(t *testing.T) {
	for _, h := range []impl.Young{
		youngOf("1.0 5", 1, "0", "0"), youngOf("0.1 5", 1, "", "0"), youngOf("6 2.0 5", 2, "1", "1"), youngOf("2.2 0.0 5", 2, "1", "0"),
	} {
		got, ok := impl.YoungCollect(h)
		if !ok || !slices.Equal(got.Cells, h.Cells) || got.Old != len(h.Cells) || len(got.Noted) != 0 {
			t.Errorf("%v: %v, %v", h, got, ok)
		}
		h.Noted = nil
		noYoung(t, "a pair that is not noted", h)
	}
}

func TestSetPart(t *testing.T) {
	for _, c := range []struct {
		what   string
		heap   impl.Young
		at     int
		second bool
		to     int
		want   impl.Young
	}{
		{"first part, young", youngOf("5 6 0.0", 0, "2", ""), 2, false, 1, youngOf("5 6 1.0", 0, "2", "")},
		{"second part, young", youngOf("5 6 0.0", 0, "2", ""), 2, true, 1, youngOf("5 6 0.1", 0, "2", "")},
		{"a pair to itself", youngOf("5 0.0", 0, "1 1", ""), 1, true, 1, youngOf("5 0.1", 0, "1 1", "")},
		{"an old pair to itself", youngOf("5 0.0", 2, "1", ""), 1, false, 1, youngOf("5 1.0", 2, "1", "")},
		{"an old pair to a younger old one", youngOf("5 0.0 6 7", 3, "", ""), 1, false, 2, youngOf("5 2.0 6 7", 3, "", "")},
		{"an old pair to the first young one", youngOf("5 0.0 6 7", 2, "", ""), 1, false, 2, youngOf("5 2.0 6 7", 2, "", "1")},
		{"an old pair's second to a young one", youngOf("5 0.0 6 7", 2, "1", ""), 1, true, 3, youngOf("5 0.3 6 7", 2, "1", "1")},
		{"the last old pair to the only young one", youngOf("5 6 0.0 7", 3, "", ""), 2, true, 3, youngOf("5 6 0.3 7", 3, "", "2")},
		{"noted before", youngOf("5 2.0 6 7", 2, "", "1"), 1, false, 3, youngOf("5 3.0 6 7", 2, "", "1")},
		{"noted before though it need not be", youngOf("5 0.0 6 7", 2, "", "0 1"), 1, true, 3, youngOf("5 0.3 6 7", 2, "", "0 1")},
		{"ahead of other notes", youngOf("0.0 4.0 4.0 0.0 5", 4, "", "1 2"), 0, true, 4, youngOf("0.4 4.0 4.0 0.0 5", 4, "", "0 1 2")},
		{"between other notes", youngOf("4.0 0.0 4.0 0.0 5", 4, "", "0 2"), 1, true, 4, youngOf("4.0 0.4 4.0 0.0 5", 4, "", "0 1 2")},
		{"behind other notes", youngOf("4.0 0.0 4.0 0.0 5", 4, "", "0 2"), 3, true, 4, youngOf("4.0 0.0 4.0 0.4 5", 4, "", "0 2 3")},
		{"a note stays", youngOf("5 2.0 6 7", 2, "", "1"), 1, false, 0, youngOf("5 0.0 6 7", 2, "", "1")},
		{"a note stays by the other part", youngOf("5 2.2 6 7", 2, "", "1"), 1, false, 0, youngOf("5 0.2 6 7", 2, "", "1")},
		{"a young pair to an old cell", youngOf("5 6 3.3 7", 1, "2", ""), 2, false, 0, youngOf("5 6 0.3 7", 1, "2", "")},
		{"a young pair to a young cell", youngOf("5 6 0.0 7", 1, "2", ""), 2, true, 3, youngOf("5 6 0.3 7", 1, "2", "")},
		{"a young pair at Old", youngOf("5 0.0 7", 1, "", ""), 1, true, 2, youngOf("5 0.2 7", 1, "", "")},
		{"what it is already", youngOf("5 0.0 7", 2, "", ""), 1, true, 0, youngOf("5 0.0 7", 2, "", "")},
		{"what none reaches", youngOf("5 0.0 7", 0, "2", ""), 1, true, 2, youngOf("5 0.2 7", 0, "2", "")},
	} {
		got, ok := impl.SetPart(c.heap, c.at, c.second, c.to)
		if !youngsAlike(got, c.want) || !ok {
			t.Errorf("%s: %v, %v; wanted %v", c.what, got, ok, c.want)
		}
		if want := setAsModel(t, c.heap, c.at, c.second, c.to); !youngsAlike(want, c.want) || !impl.GoodYoung(got) {
			t.Errorf("%s: the model answers %v", c.what, want)
		}
	}
}

// A leaf has no part, and a place that is none neither.
func TestSetPartOfNone(t *testing.T) {
	h := youngOf("5 3.0 6 1.0 7", 2, "1 3", "1")
	for _, second := range []bool{false, true} {
		for _, place := range append(wrongInts(), 5, 6) {
			for at := range 5 {
				setAsModel(t, h, at, second, place)
				setAsModel(t, h, place, second, at)
			}
			setAsModel(t, h, place, second, place)
			setAsModel(t, impl.Young{}, place, second, 0)
		}
		for at := range 5 {
			for to := range 5 {
				setAsModel(t, h, at, second, to)
			}
		}
		for _, leaf := range []int{0, 2, 4} {
			if got, ok := impl.SetPart(h, leaf, second, 1); !youngsAlike(got, impl.Young{}) || ok {
				t.Errorf("SetPart of a leaf: %v, %v", got, ok)
			}
		}
	}
}

func TestShowDeep(t *testing.T) {
	h := youngOf("5 -6 0.1 2.4 4.2 5.5 7.0 3.6", 3, "3", "")
	for _, c := range []struct {
		at   int
		deep int
		want string
	}{
		{0, 0, "5"}, {0, 1, "5"}, {0, 10, "5"}, {1, 0, "-6"}, {1, 10, "-6"},
		{2, 0, "*"}, {2, 1, "(5 -6)"}, {2, 2, "(5 -6)"}, {2, 10, "(5 -6)"},
		{3, 0, "*"}, {3, 1, "(* *)"}, {3, 2, "((5 -6) (* *))"}, {3, 3, "((5 -6) ((* *) (5 -6)))"},
		{4, 0, "*"}, {4, 1, "(* *)"}, {4, 2, "((* *) (5 -6))"}, {4, 3, "(((* *) (5 -6)) (5 -6))"},
		{4, 10, strings.Repeat("(", 9) + "(* *)" + strings.Repeat(" (5 -6))", 9)},
		{5, 0, "*"}, {5, 1, "(* *)"}, {5, 2, "((* *) (* *))"}, {5, 3, "(((* *) (* *)) ((* *) (* *)))"},
		{6, 0, "*"}, {6, 1, "(* 5)"}, {6, 2, "((* *) 5)"}, {6, 3, "(((* *) (* 5)) 5)"},
	} {
		text, ok := impl.ShowDeep(h, c.at, c.deep)
		told(t, "ShowDeep "+strconv.Itoa(c.at)+" "+strconv.Itoa(c.deep), text, ok, c.want)
	}
	nodes := heapModelOf(plainOf(h)).cells
	for at, node := range nodes {
		for deep := range 11 {
			text, ok := impl.ShowDeep(h, at, deep)
			told(t, "ShowDeep", text, ok, node.deepText(deep))
		}
		for _, deep := range append(wrongInts(), 11, 12) {
			if deep < 0 || deep > 10 {
				text, ok := impl.ShowDeep(h, at, deep)
				refused(t, "ShowDeep with deep "+strconv.Itoa(deep), text, ok)
			}
		}
	}
	for _, at := range append(wrongInts(), len(nodes), len(nodes)+1) {
		for _, deep := range []int{-1, 0, 1, 10, 11} {
			text, ok := impl.ShowDeep(h, at, deep)
			refused(t, "ShowDeep of no cell", text, ok)
			text, ok = impl.ShowDeep(impl.Young{}, at, deep)
			refused(t, "ShowDeep of an empty heap", text, ok)
		}
	}
}

// The longest texts that there are: the chapter tells no limit of bytes here, only of how deep they go.
func TestShowDeepLong(t *testing.T) {
	h := impl.Young{Cells: []impl.Cell{{Leaf: true, N: math.MinInt}}}
	for at := range 11 {
		h.Cells = append(h.Cells, impl.Cell{A: at, B: at})
	}
	want := strconv.Itoa(math.MinInt)
	for at := range 11 {
		text, ok := impl.ShowDeep(h, at, 10)
		told(t, "a pair of pairs", text, ok, want)
		want = "(" + want + " " + want + ")"
	}
	stars := strings.ReplaceAll(want, strconv.Itoa(math.MinInt), "?")
	stars = strings.ReplaceAll(stars, "(? ?)", "*")
	text, ok := impl.ShowDeep(h, 11, 10)
	told(t, "the last pair", text, ok, stars)
	// A leaf is told at any depth: at the last one too.
	h = youngOf("7 0.1", 0, "", "")
	text, ok = impl.ShowDeep(h, 1, 10)
	told(t, "a leaf ten times", text, ok, strings.Repeat("(7 ", 10)+"*"+strings.Repeat(")", 10))
	h = impl.Young{Cells: append([]impl.Cell{{A: 1, B: 1}, {A: 2, B: 2}, {A: 3, B: 3}}, leavesOf(1)...)}
	for deep, want := range []string{"*", "(* *)", "((* *) (* *))", "(((0 0) (0 0)) ((0 0) (0 0)))", "(((0 0) (0 0)) ((0 0) (0 0)))"} {
		text, ok := impl.ShowDeep(h, 0, deep)
		told(t, "pairs of younger ones", text, ok, want)
	}
}

// showsDeep tells what roots show.
func showsDeep(h impl.Young, deep int) []string {
	var out []string
	for _, root := range h.Roots {
		text, ok := impl.ShowDeep(h, root, deep)
		out = append(out, text+strconv.FormatBool(ok))
	}
	return out
}

// Promise 15 of drawn heaps: what is reached stays, roots show the same, and what was collected fully stays as it is.
func TestDrawnYoungs(t *testing.T) {
	d := &dice{state: 1501}
	went, kept := 0, 0
	for n := range 6000 {
		many := d.below(14)
		if n%20 == 0 {
			many = d.below(impl.MaxCells + 1)
		}
		h := d.young(many, d.below(6))
		if n%50 == 0 {
			h = d.young(many, d.below(61))
		}
		youngAsModel(t, h)
		full, _ := impl.FullCollect(h)
		young, _ := impl.YoungCollect(h)
		live, _ := impl.LiveIn(h)
		liveOfYoung, _ := impl.LiveIn(young)
		went += len(h.Cells) - len(young.Cells)
		kept += len(young.Cells) - len(full.Cells)
		if len(full.Cells) != len(live) || len(liveOfYoung) != len(live) || len(young.Cells) < h.Old {
			t.Errorf("%v: %d are reached, %d left, %d of %d of the young ones", h, len(live), len(full.Cells), len(liveOfYoung), len(young.Cells))
		}
		deep := d.below(7)
		for _, left := range []impl.Young{full, young} {
			youngAsModel(t, left)
			if !slices.Equal(showsDeep(left, deep), showsDeep(h, deep)) {
				t.Errorf("%v: the roots show %v, in %v %v", h, showsDeep(h, deep), left, showsDeep(left, deep))
			}
			if again, ok := impl.FullCollect(left); !youngsAlike(again, full) || !ok {
				t.Errorf("%v: FullCollect of what was collected: %v, %v", left, again, ok)
			}
			if again, ok := impl.YoungCollect(left); !youngsAlike(again, left) || !ok {
				t.Errorf("%v: YoungCollect of what was collected: %v, %v", left, again, ok)
			}
		}
	}
	if went < 6000 || kept < 6000 {
		t.Errorf("only %d cells went, only %d stayed that none reaches", went, kept)
	}
}

// A heap stays good whatever is written, one write behind the other, with new cells and collecting between.
func TestDrawnWritesToHeaps(t *testing.T) {
	d := &dice{state: 1511}
	noted, goneNotes := 0, 0
	for range 1500 {
		h := d.young(1+d.below(12), 1+d.below(5))
		for range 12 {
			many := len(h.Cells)
			at, second, to := d.below(many), d.below(2) == 0, d.below(many)
			setAsModel(t, h, at, second, to)
			if out, ok := impl.SetPart(h, at, second, to); ok {
				noted += len(out.Noted) - len(h.Noted)
				h = out
			}
			youngAsModel(t, h)
			if d.below(6) == 0 {
				goneNotes += len(h.Noted)
				h, _ = impl.YoungCollect(h)
			}
			if d.below(3) == 0 {
				h.Roots = append(h.Roots, len(h.Cells))
				h.Cells = append(h.Cells, impl.Cell{A: len(h.Cells), B: d.below(len(h.Cells) + 1)})
			}
		}
	}
	if noted < 500 || goneNotes < 500 {
		t.Errorf("only %d were noted, only %d notes went", noted, goneNotes)
	}
}

// cellsAmong are all cells that there may be among so many, with one kind of leaf.
func cellsAmong(many int) []impl.Cell {
	out := leavesOf(2)[1:]
	for a := range many {
		for b := range many {
			out = append(out, impl.Cell{A: a, B: b})
		}
	}
	return out
}

// eachYoung gives all heaps of so many cells: each Old, some lists of roots, and all notes.
func eachYoung(many int, do func(h impl.Young)) {
	kinds := cellsAmong(many)
	lists := [][]int{nil}
	for at := range many {
		lists = append(lists, []int{at}, []int{many - 1, at})
	}
	which := make([]int, many)
	for {
		cells := make([]impl.Cell, many)
		for at, kind := range which {
			cells[at] = kinds[kind]
		}
		for old := range many + 1 {
			for _, roots := range lists {
				for notes := range 1 << many {
					h := impl.Young{Old: old, Cells: cells, Roots: roots}
					for at := range many {
						if notes>>at&1 == 1 {
							h.Noted = append(h.Noted, at)
						}
					}
					do(h)
				}
			}
		}
		at := 0
		for at < many && which[at] == len(kinds)-1 {
			which[at] = 0
			at++
		}
		if at == many {
			return
		}
		which[at]++
	}
}

// Every heap of at most two cells, and every ninth of three, is as the model says.
func TestEverySmallYoung(t *testing.T) {
	good, all := 0, 0
	for many := range 4 {
		eachYoung(many, func(h impl.Young) {
			all++
			switch {
			case many == 3 && all%9 > 0:
			case modelGoodYoung(h):
				good++
				youngAsModel(t, h)
				for at := range many {
					setAsModel(t, h, at, all%2 == 0, all/2%many)
				}
			default:
				noYoung(t, "a small heap", h)
			}
		})
	}
	if good < 5000 {
		t.Errorf("only %d of %d small heaps are good", good, all)
	}
}
