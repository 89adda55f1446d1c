package tests

import (
	"math"
	"slices"
	"strconv"
	"strings"
	"testing"

	"loop.example/g00201/impl"
)

// toldOps are ops, and what they tell, whatever is collected.
var toldOps = [][2]string{
	{"leaf 5", ""},
	{"leaf 5|show 0", "5\n"},
	{"leaf 0|show 0", "0\n"},
	{"leaf -3|show 0", "-3\n"},
	{"leaf -9223372036854775808|leaf 9223372036854775807|show 0|show 1", "-9223372036854775808\n9223372036854775807\n"},
	{"leaf 5|leaf 6|show 1|show 0|show 1", "6\n5\n6\n"},
	{"leaf 5 9|show 0 9", "5\n"},
	{"leaf 5|leaf 6|pair 0 1|show 2", "(5 6)\n"},
	{"leaf 5|leaf 6|pair 1 0|show 2", "(6 5)\n"},
	{"leaf 5|pair 0 0|show 1", "(5 5)\n"},
	{"leaf 5|pair 0 0|pair 1 0|pair 2 1|show 3", "(((5 5) 5) (5 5))\n"},
	{"pair 0 0|show 0", ""},
	{"leaf 5|pair -1 0|pair 0 -1|pair 0 1|pair 1 0|show 1|show 0", "5\n"},
	{"leaf 5|leaf 6|pair 0 1|first 2|show 3|second 2|show 4|show 2", "5\n6\n(5 6)\n"},
	{"leaf 5|pair 0 0|leaf 6|pair 1 2|first 3|second 3|first 4|show 4|show 5|show 6", "(5 5)\n6\n5\n"},
	{"leaf 5|first 0|second 0|show 1|show 0", "5\n"},
	{"leaf 0|leaf 5|first 1|second 1|show 2", ""},
	{"leaf 5|pair 0 0|first -1|second -1|first 2|second 2|show 2", ""},
	{"first 0|second 0|show 0", ""},
	{"leaf 5|leaf 6|leaf 7|drop 1|show 0|show 1|show 2", "5\n7\n"},
	{"leaf 5|leaf 6|leaf 7|drop 0|show 0|show 1|show 2", "6\n7\n"},
	{"leaf 5|leaf 6|leaf 7|drop 2|show 0|show 1|show 2", "5\n6\n"},
	{"leaf 5|drop -1|drop 1|show 0|drop 0|show 0|drop 0|show 0", "5\n"},
	{"drop 0|leaf 5|show 0", "5\n"},
	{"leaf 5|drop 0|leaf 6|show 0|show 1", "6\n"},
	{"leaf 5|leaf 6|pair 0 1|drop 0|drop 0|show 0|first 0|second 0|show 1|show 2", "(5 6)\n5\n6\n"},
	{"show 0|show -1|leaf 5|show -1|show 1", ""},
	{"leaf 5|leaf 5|same 0 1|same 1 0|same 0 0|same 1 1", "other\nother\nsame\nsame\n"},
	{"leaf 5|pair 0 0|first 1|second 1|same 0 2|same 2 3|same 1 2", "same\nsame\nother\n"},
	{"leaf 5|pair 0 0|pair 0 0|same 1 2", "other\n"},
	{"same 0 0|leaf 5|same 0 1|same 1 0|same -1 0|same 0 -1|same 1 1", ""},
	{"collect|minor|leaf 5|collect|show 0|minor|show 0|collect|show 0", "5\n5\n5\n"},
	{"leaf 5|leaf 6|drop 0|collect|show 0|leaf 7|pair 0 1|drop 0|drop 0|minor|show 0|collect|show 0", "6\n(6 7)\n(6 7)\n"},
	{"leaf 1|leaf 2|leaf 3|pair 0 2|drop 0|drop 0|collect|show 0|show 1|first 1|same 0 2|show 2", "3\n(1 3)\nother\n1\n"},
	{"leaf 1|leaf 2|leaf 3|pair 0 2|drop 0|drop 0|minor|show 0|show 1|second 1|same 0 2|show 2", "3\n(1 3)\nsame\n3\n"},
	{"leaf 1|leaf 2|pair 0 1|collect|leaf 3|drop 0|leaf 4|drop 2|minor|pair 1 2|drop 0|collect|show 0|show 1|show 2", "(1 2)\n4\n((1 2) 4)\n"},
	{"leaf 1|pair 0 0|minor|drop 0|drop 0|leaf 2|minor|show 0|leaf 3|collect|show 0|show 1", "2\n2\n3\n"},
	{"leaf 5|none|show 0", "5\n"},
}

func TestPlayedOps(t *testing.T) {
	for _, c := range toldOps {
		l := opsOf(c[0])
		for _, nursery := range []int{1, 2, 3, impl.MaxCells} {
			for _, room := range []int{30, impl.MaxCells} {
				if told, full, ok := impl.PlayHeap(l, room, nursery); told != c[1] || full || !ok {
					t.Errorf("%s\nroom %d, nursery %d: %q, %v, %v; wanted %q", c[0], room, nursery, told, full, ok, c[1])
				}
			}
		}
		if told, ok := impl.ModelHeap(l); told != c[1] || !ok {
			t.Errorf("%s\nModelHeap: %q, %v; wanted %q", c[0], told, ok, c[1])
		}
		for room := range 8 {
			plays(t, l, room, 1+room%3)
		}
		modelled(t, l)
	}
}

// A kind that is none does nothing, nor do roots of any size.
func TestPlayedOpsThatAreNone(t *testing.T) {
	rest := opsOf("leaf 5|leaf 6|pair 0 1")
	for _, kind := range append(wrongInts(), 0, 10, 11) {
		l := slices.Concat(rest, []impl.HeapOp{{Kind: kind}, {Kind: kind, A: 1, B: 2}}, opsOf("show 2|show 3"))
		if told := plays(t, l, 3, 1).told; told != "(5 6)\n" || modelled(t, l) != told {
			t.Errorf("kind %d: %q", kind, told)
		}
	}
	for _, root := range append(wrongInts(), 3, 4) {
		for kind := impl.HeapPair; kind <= impl.HeapSame; kind++ {
			l := slices.Concat(rest, []impl.HeapOp{{Kind: kind, A: root, B: root}}, opsOf("show 2|show 3"))
			if kind == impl.HeapPair || kind == impl.HeapSame {
				l = slices.Concat(l, []impl.HeapOp{{Kind: kind, A: root}, {Kind: kind, B: root}}, opsOf("show 3"))
			}
			if p := plays(t, l, 3, 1); p.told != "(5 6)\n" || p.full || modelled(t, l) != p.told {
				t.Errorf("kind %d of root %d: %+v", kind, root, p)
			}
		}
	}
	for _, l := range [][]impl.HeapOp{nil, {}} {
		for _, room := range []int{0, 1, impl.MaxCells} {
			if p := plays(t, l, room, 1); p != (heapPlay{}) || modelled(t, l) != "" {
				t.Errorf("no ops: %+v", p)
			}
		}
	}
}

// fullOps are ops with a room: whether it is full, and what is told till then, whatever the nursery is.
var fullOps = []struct {
	ops  string
	room int
	told string
	full bool
}{
	{"leaf 1|show 0", 0, "", true},
	{"show 0|pair 0 0|first 0|drop 0|same 0 0|collect|minor", 0, "", false},
	{"leaf 1|show 0", 1, "1\n", false},
	{"leaf 1|show 0|leaf 2|show 0", 1, "1\n", true},
	{"leaf 1|show 0|pair 0 0|show 0", 1, "1\n", true},
	{"leaf 1|show 0|pair 0 0|show 1", 2, "1\n(1 1)\n", false},
	{"leaf 1|drop 0|leaf 2|drop 0|leaf 3|show 0", 1, "3\n", false},
	{"leaf 1|leaf 2|leaf 3|show 2", 3, "3\n", false},
	{"leaf 1|leaf 2|show 1|leaf 3|show 2", 2, "2\n", true},
	{"leaf 1|leaf 2|show 1|drop 0|leaf 3|show 1", 2, "2\n3\n", false},
	{"leaf 1|leaf 2|pair 0 1|drop 0|drop 0|show 0|leaf 3|show 1", 4, "(1 2)\n3\n", false},
	{"leaf 1|leaf 2|pair 0 1|drop 0|drop 0|show 0|leaf 3|show 1", 3, "(1 2)\n", true},
	{"leaf 1|leaf 2|pair 0 1|drop 0|drop 0|first 0|drop 0|show 0|leaf 3|leaf 4|show 1|show 2", 3, "1\n3\n4\n", false},
	{"leaf 1|leaf 2|pair 0 1|drop 0|drop 0|first 0|drop 0|show 0|leaf 3|leaf 4|show 1|leaf 5", 3, "1\n3\n", true},
	{"leaf 1|minor|drop 0|leaf 2|show 0", 1, "2\n", false},
	{"leaf 1|leaf 2|collect|drop 0|drop 0|leaf 3|leaf 4|show 0|show 1", 2, "3\n4\n", false},
	{"leaf 1|leaf 2|leaf 3|minor|drop 0|leaf 4|drop 2|leaf 5|show 0|show 1|show 2|leaf 6", 3, "2\n3\n5\n", true},
	// An op that can not be done makes no cell, so it finds nothing full.
	{"leaf 1|pair 0 1|pair 1 0|pair -1 0|first 0|none|show 0", 1, "1\n", false},
	{"leaf 1|leaf 2|pair 0 1|show 2|first 2|second 2|same 0 3|same 1 4|drop 0|collect|minor|show 0", 3, "(1 2)\nsame\nsame\n2\n", false},
	{"leaf 5*60|leaf 7|pair 0 1|show 59", 60, "5\n", false},
	{"leaf 5*60|show 0", 59, "", true},
	{"leaf 5*59|show 0|leaf 6|show 59", 59, "5\n", true},
	{"leaf 5*59|show 0|leaf 6|show 59", 60, "5\n6\n", false},
	{"leaf 5*60|drop 0|leaf 7|show 59", 60, "7\n", false},
	{"leaf 5*60|drop 0|pair 0 1|show 59", 60, "(5 5)\n", false},
	{"leaf 5|pair 0 0|drop 0|pair 0 0|drop 0|pair 0 0|drop 0|show 0", 4, "(((5 5) (5 5)) ((5 5) (5 5)))\n", false},
	{"leaf 5|pair 0 0|drop 0|pair 0 0|drop 0|show 0|pair 0 0|drop 0|show 0", 3, "((5 5) (5 5))\n", true},
}

// Ahead of a new cell there is collected, and it ends where what is reached leaves no room. Nursery is met exactly at
// some of those numbers and missed by one at others; nobody sees it.
func TestFullHeaps(t *testing.T) {
	for _, c := range fullOps {
		l := opsOf(c.ops)
		for nursery := 1; nursery <= 64; nursery++ {
			told, full, ok := impl.PlayHeap(l, c.room, nursery)
			if told != c.told || full != c.full || !ok {
				t.Errorf("%s\nroom %d, nursery %d: %q, %v, %v; wanted %q, %v", c.ops, c.room, nursery, told, full, ok, c.told, c.full)
			}
			plays(t, l, c.room, nursery)
		}
		if told := modelled(t, l); !strings.HasPrefix(told, c.told) {
			t.Errorf("%s: told %q, by the model %q", c.ops, c.told, told)
		}
	}
}

// Beyond 60 roots there is none: neither a leaf nor a pair nor a part makes one.
func TestSixtyRoots(t *testing.T) {
	for _, c := range [][2]string{
		{"leaf 5*60|show 59|show 60|leaf 7|show 59|show 60|pair 0 0|show 59|show 60", "5\n5\n5\n"},
		{"leaf 5*60|leaf 7|pair 0 0|drop 0|leaf 8|show 58|show 59|show 60", "5\n8\n"},
		{"leaf 5*59|leaf 7|show 59|leaf 8|drop 59|leaf 9|show 59|show 60", "7\n9\n"},
		{"leaf 1|leaf 2|pair 0 1|leaf 5*57|first 2|show 60|second 2|show 60|show 59", "5\n"},
		{"leaf 1|leaf 2|pair 0 1|leaf 5*56|first 2|show 59|second 2|show 60|drop 59|second 2|show 59|first 2|show 60", "1\n2\n"},
		{"leaf 1|leaf 2|pair 0 1|leaf 5*56|pair 2 2|show 59|pair 2 2|show 60", "((1 2) (1 2))\n"},
	} {
		l := opsOf(c[0])
		if told := plays(t, l, impl.MaxCells, impl.MaxCells).told; told != c[1] || modelled(t, l) != c[1] {
			t.Errorf("%s: %q; wanted %q", c[0], told, c[1])
		}
		for _, nursery := range []int{1, 30, 59, 60, 61} {
			for room := 55; room < 66; room++ {
				plays(t, l, room, nursery)
			}
		}
	}
}

// A text of just 500 bytes is shown, a greater one is told as long.
func TestLongShows(t *testing.T) {
	double := "leaf 100000000000|pair 0 0|pair 1 1|pair 2 2|pair 3 3|pair 4 4|leaf 1000000000|pair 5 6|"
	inner := "100000000000"
	for range 5 {
		inner = "(" + inner + " " + inner + ")"
	}
	inner = "(" + inner + " 1000000000)"
	for ops, want := range map[string]string{
		double + "leaf 1000000|pair 7 8|show 9|show 8":                                                "(" + inner + " 1000000)\n1000000\n",
		double + "leaf 10000000|pair 7 8|show 9|show 8":                                               "long\n10000000\n",
		double + "leaf 1000000|pair 8 7|show 9":                                                       "(1000000 " + inner + ")\n",
		double + "leaf -1000000|pair 8 7|show 9|show 7":                                               "long\n" + inner + "\n",
		"leaf 1|pair 0 0|drop 0|" + strings.Repeat("pair 0 0|drop 0|", 70) + "show 0|show 0|same 0 0": "long\nlong\nsame\n",
	} {
		l := opsOf(ops)
		if p := plays(t, l, impl.MaxCells, 1); p.told != want || p.full || modelled(t, l) != want {
			t.Errorf("%s: %q; wanted %q", ops, short(p.told), short(want))
		}
	}
	if len(inner) != 490 {
		t.Errorf("the text of the inner pair has %d bytes", len(inner))
	}
}

// Room and nursery at their edges, and one beyond.
func TestRoomAndNurseryEdges(t *testing.T) {
	l := opsOf("leaf 1|show 0|leaf 2|drop 0|show 0")
	for room, told := range map[int]string{0: "", 1: "1\n", 2: "1\n2\n", impl.MaxCells - 1: "1\n2\n", impl.MaxCells: "1\n2\n"} {
		for _, nursery := range []int{1, 2, impl.MaxCells - 1, impl.MaxCells} {
			if p := plays(t, l, room, nursery); p != (heapPlay{told, room < 2}) {
				t.Errorf("room %d, nursery %d: %+v", room, nursery, p)
			}
		}
	}
	for _, room := range append(wrongInts(), impl.MaxCells+1) {
		noPlay(t, l, room, 1)
		noPlay(t, nil, room, impl.MaxCells)
	}
	for _, nursery := range append(wrongInts(), 0, impl.MaxCells+1) {
		noPlay(t, l, 0, nursery)
		noPlay(t, nil, impl.MaxCells, nursery)
	}
}

// noPlay asks for the zero answer.
func noPlay(t *testing.T, l []impl.HeapOp, room int, nursery int) {
	t.Helper()
	if told, full, ok := impl.PlayHeap(l, room, nursery); told != "" || full || ok {
		t.Errorf("%d ops, room %d, nursery %d: %q, %v, %v; wanted the zero answer", len(l), room, nursery, told, full, ok)
	}
}

// All ops that there may be, and one more.
func TestManyOps(t *testing.T) {
	for _, op := range []string{"leaf 5*149", "leaf 5|drop 0|leaf 5|drop 0|leaf 5*144|drop 0", "leaf 5|drop 7*148", "leaf 5|none*148", "leaf 5|show 0*148", "leaf 5|collect*148"} {
		l := append(opsOf(op), opsOf("show 0")...)
		if len(l) != impl.MaxHeapOps {
			t.Fatalf("%s: %d ops", op, len(l))
		}
		if p := plays(t, l, impl.MaxCells, 7); !strings.HasSuffix(p.told, "5\n") || p.full || modelled(t, l) != p.told {
			t.Errorf("%s: %+v", op, p)
		}
		l = append(l, impl.HeapOp{Kind: impl.HeapShow})
		noPlay(t, l, impl.MaxCells, 7)
		told, ok := impl.ModelHeap(l)
		refused(t, "ModelHeap of one op too many", told, ok)
	}
	// The most cells that ops can make, all of them reached.
	l := opsOf("leaf 5|" + strings.Repeat("pair 0 0|drop 0|", 74) + "show 0")
	for room, full := range map[int]bool{74: true, 75: false} {
		if p := plays(t, l, room, 1); p.full != full {
			t.Errorf("room %d: %+v", room, p)
		}
	}
}

// Promise 7 of drawn ops: what is told hangs on no room and no nursery, till it is full.
func TestDrawnOps(t *testing.T) {
	d := &dice{state: 709}
	lines, filled := 0, 0
	for n := range 10000 {
		l := d.heapOps(d.below(60))
		if n%4 == 0 {
			l = d.heapOps(d.below(impl.MaxHeapOps + 1))
		}
		model := modelled(t, l)
		lines += strings.Count(model, "\n")
		for range 4 {
			room, nursery := d.below(30), 1+d.below(20)
			if d.below(4) == 0 {
				room, nursery = d.below(impl.MaxCells+1), 1+d.below(impl.MaxCells)
			}
			plays(t, l, room, nursery)
			told, full, ok := impl.PlayHeap(l, room, nursery)
			if full {
				filled++
			}
			if !ok || !full && told != model || !strings.HasPrefix(model, told) {
				t.Errorf("%v\nroom %d, nursery %d: %q, %v, %v; the model tells %q", l, room, nursery, told, full, ok, model)
			}
		}
	}
	if lines < 20000 || filled < 2000 {
		t.Errorf("only %d lines told, only %d times full", lines, filled)
	}
}

// Every room and every nursery: it is full till there is room for all that is reached at once, and nobody sees when
// there was collected.
func TestEveryRoomAndNursery(t *testing.T) {
	d := &dice{state: 719}
	for range 6 {
		l := d.heapOps(impl.MaxHeapOps)
		model := modelled(t, l)
		for room := range impl.MaxCells + 1 {
			want := modelPlay(l, room, 1)
			for nursery := 1; nursery <= impl.MaxCells; nursery++ {
				told, full, ok := impl.PlayHeap(l, room, nursery)
				if (heapPlay{told, full}) != want || !ok || !full && told != model {
					t.Errorf("%v\nroom %d, nursery %d: %q, %v, %v; wanted %+v", l, room, nursery, told, full, ok, want)
				}
			}
		}
	}
}

// A leaf keeps its number whatever it is, and whatever is collected around it.
func TestLeavesStayAsTheyAre(t *testing.T) {
	for _, n := range append(wrongInts(), 0, 1, math.MaxInt32) {
		l := slices.Concat(opsOf("leaf 1|leaf 2"), []impl.HeapOp{{Kind: impl.HeapLeaf, A: n, B: n}}, opsOf("drop 0|minor|pair 1 1|drop 0|collect|show 0|first 1|same 0 2|show 2"))
		text := strconv.Itoa(n) + "\n"
		want := text + "same\n" + text
		if p := plays(t, l, 3, 1); p.told != want || p.full || modelled(t, l) != want {
			t.Errorf("a leaf of %d: %+v; wanted %q", n, p, want)
		}
	}
}
