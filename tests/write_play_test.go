package tests

import (
	"math"
	"slices"
	"strconv"
	"strings"
	"testing"

	"loop.example/g00201/impl"
)

// toldWrites are ops, and what they tell, whatever is collected.
var toldWrites = [][2]string{
	{"leaf 5", ""},
	{"leaf 5|show 0", "5\n"},
	{"leaf -9223372036854775808|leaf 9223372036854775807|show 0|show 1", "-9223372036854775808\n9223372036854775807\n"},
	{"leaf 5 9|show 0 9", "5\n"},
	{"leaf 5|leaf 6|pair 0 1|show 2", "(5 6)\n"},
	{"leaf 5|leaf 6|pair 1 0|show 2", "(6 5)\n"},
	{"pair 0 0|show 0", ""},
	{"leaf 5|pair -1 0|pair 0 -1|pair 0 1|pair 1 0|show 1|show 0", "5\n"},
	{"leaf 5|leaf 6|pair 0 1|first 2|show 3|second 2|show 4|show 2", "5\n6\n(5 6)\n"},
	{"leaf 5|first 0|second 0|show 1|show 0", "5\n"},
	{"leaf 5|pair 0 0|first -1|second -1|first 2|second 2|show 2", ""},
	{"leaf 5|leaf 6|leaf 7|drop 1|show 0|show 1|show 2", "5\n7\n"},
	{"leaf 5|drop -1|drop 1|show 0|drop 0|show 0|drop 0|show 0", "5\n"},
	{"show 0|show -1|leaf 5|show -1|show 1", ""},
	// Four pairs deep.
	{"leaf 5|pair 0 0|pair 1 0|pair 2 0|pair 3 0|pair 4 0|show 3|show 4|show 5", "(((5 5) 5) 5)\n((((5 5) 5) 5) 5)\n((((* 5) 5) 5) 5)\n"},
	{"leaf 5|pair 0 0|pair 1 1|pair 2 2|pair 3 3|pair 4 4|show 4|show 5",
		"((((5 5) (5 5)) ((5 5) (5 5))) (((5 5) (5 5)) ((5 5) (5 5))))\n((((* *) (* *)) ((* *) (* *))) (((* *) (* *)) ((* *) (* *))))\n"},
	// Parts that are written.
	{"leaf 5|leaf 6|pair 0 0|setfirst 2 1|show 2|setsecond 2 1|show 2|setfirst 2 0|show 2", "(6 5)\n(6 6)\n(5 6)\n"},
	{"leaf 5|pair 0 0|setfirst 1 1|show 1", "((((* 5) 5) 5) 5)\n"},
	{"leaf 5|pair 0 0|setsecond 1 1|show 1", "(5 (5 (5 (5 *))))\n"},
	{"leaf 5|pair 0 0|setfirst 1 1|setsecond 1 1|show 1|drop 0|show 0", strings.Repeat("((((* *) (* *)) ((* *) (* *))) (((* *) (* *)) ((* *) (* *))))\n", 2)},
	{"leaf 5|pair 0 0|pair 1 1|setfirst 1 2|show 2|show 1", "((((* 5) (* 5)) 5) (((* 5) (* 5)) 5))\n((((* *) 5) ((* *) 5)) 5)\n"},
	{"leaf 5|leaf 6|pair 0 1|pair 2 2|setfirst 2 1|show 3", "((6 6) (6 6))\n"},
	{"leaf 5|leaf 6|pair 0 1|first 2|setfirst 2 1|show 3|show 2|first 2|show 4", "5\n(6 6)\n6\n"},
	{"leaf 5|leaf 6|setfirst 0 1|setsecond 0 1|show 0|show 1", "5\n6\n"},
	{"leaf 5|pair 0 0|setfirst -1 0|setfirst 1 -1|setfirst 2 0|setfirst 1 2|setsecond -1 1|setsecond 1 -1|setsecond 2 1|setsecond 1 2|show 1", "(5 5)\n"},
	{"setfirst 0 0|setsecond 0 0|show 0", ""},
	{"leaf 5|leaf 6|pair 0 0|setfirst 0 1|setfirst 2 1|show 0|show 2", "5\n(6 5)\n"},
	// Cells that are one, and cells that are alike.
	{"leaf 5|leaf 5|same 0 1|same 1 0|same 0 0|same 1 1", "other\nother\nsame\nsame\n"},
	{"leaf 5|leaf 5|collect|same 0 1|same 0 0|minor|same 1 0|same 1 1", "other\nsame\nother\nsame\n"},
	{"leaf 5|pair 0 0|pair 0 0|same 1 2|minor|same 1 2|collect|same 2 1|first 1|second 2|same 3 4|collect|same 4 3|same 0 3", "other\nother\nother\nsame\nsame\nsame\n"},
	{"leaf 5|pair 0 0|setfirst 1 1|first 1|same 1 2|second 1|same 0 3|same 2 3|collect|same 1 2|same 2 3", "same\nsame\nother\nsame\nother\n"},
	{"same 0 0|leaf 5|same 0 1|same 1 0|same -1 0|same 0 -1", ""},
	// An old pair is written to a young cell, and the young ones are collected.
	{"leaf 1|pair 0 0|minor|leaf 2|setfirst 1 2|drop 2|minor|show 1", "(2 1)\n"},
	{"leaf 1|pair 0 0|minor|leaf 2|setsecond 1 2|drop 2|minor|show 1|minor|show 1|collect|show 1", "(1 2)\n(1 2)\n(1 2)\n"},
	{"leaf 1|pair 0 0|collect|leaf 2|setfirst 1 2|drop 2|minor|leaf 3|leaf 4|show 1|show 2|show 3", "(2 1)\n3\n4\n"},
	{"leaf 1|pair 0 0|minor|leaf 2|pair 2 2|setfirst 1 3|drop 3|drop 2|minor|show 1|leaf 7|show 1", "((2 2) 1)\n((2 2) 1)\n"},
	{"leaf 1|pair 0 0|pair 1 1|minor|leaf 2|setfirst 1 3|drop 3|drop 1|minor|leaf 3|show 1|show 2", "((2 1) (2 1))\n3\n"},
	{"leaf 1|pair 0 0|minor|leaf 2|setfirst 1 2|setfirst 1 0|drop 2|minor|leaf 3|show 1|show 2", "(1 1)\n3\n"},
	{"leaf 1|pair 0 0|minor|leaf 2|setfirst 1 2|leaf 3|setfirst 1 3|drop 2|drop 2|minor|leaf 4|show 1|show 2", "(3 1)\n4\n"},
	{"leaf 1|pair 0 0|minor|pair 0 1|setfirst 1 2|drop 2|minor|show 1|drop 1|collect|leaf 8|show 0|show 1", "((1 ((1 *) 1)) 1)\n1\n8\n"},
	{"leaf 1|leaf 2|leaf 3|pair 0 2|drop 0|drop 0|collect|show 0|show 1|first 1|same 0 2|show 2", "3\n(1 3)\nother\n1\n"},
	{"leaf 5|none|show 0", "5\n"},
}

func TestPlayedWrites(t *testing.T) {
	for _, c := range toldWrites {
		l := writesOf(c[0])
		for _, nursery := range []int{1, 2, 3, impl.MaxCells} {
			for _, room := range []int{30, impl.MaxCells} {
				if told, full, ok := impl.PlayWrites(l, room, nursery); told != c[1] || full || !ok {
					t.Errorf("%s\nroom %d, nursery %d: %q, %v, %v; wanted %q", c[0], room, nursery, told, full, ok, c[1])
				}
			}
		}
		if told, ok := impl.ModelWrites(l); told != c[1] || !ok {
			t.Errorf("%s\nModelWrites: %q, %v; wanted %q", c[0], told, ok, c[1])
		}
		for room := range 8 {
			playsWrites(t, l, room, 1+room%3)
		}
		modelledWrites(t, l)
	}
}

// A kind that is none does nothing, nor do roots of any size.
func TestPlayedWritesThatAreNone(t *testing.T) {
	rest := writesOf("leaf 5|leaf 6|pair 0 1")
	for _, kind := range append(wrongInts(), 0, 12, 13) {
		l := slices.Concat(rest, []impl.HeapOp{{Kind: kind}, {Kind: kind, A: 2, B: 2}}, writesOf("show 2|show 3"))
		if told := playsWrites(t, l, 3, 1).told; told != "(5 6)\n" || modelledWrites(t, l) != told {
			t.Errorf("kind %d: %q", kind, told)
		}
	}
	for _, root := range append(wrongInts(), 3, 4) {
		for kind := impl.WritePair; kind <= impl.WriteSame; kind++ {
			l := slices.Concat(rest, []impl.HeapOp{{Kind: kind, A: root, B: root}}, writesOf("show 2|show 3"))
			if slices.Contains([]int{impl.WritePair, impl.WriteSame, impl.WriteSetFirst, impl.WriteSetSecond}, kind) {
				l = slices.Concat(l, []impl.HeapOp{{Kind: kind, A: root, B: 2}, {Kind: kind, A: 2, B: root}}, writesOf("show 3"))
			}
			if p := playsWrites(t, l, 3, 1); p.told != "(5 6)\n" || p.full || modelledWrites(t, l) != p.told {
				t.Errorf("kind %d of root %d: %+v", kind, root, p)
			}
		}
	}
	for _, l := range [][]impl.HeapOp{nil, {}} {
		for _, room := range []int{0, 1, impl.MaxCells} {
			if p := playsWrites(t, l, room, 1); p != (heapPlay{}) || modelledWrites(t, l) != "" {
				t.Errorf("no ops: %+v", p)
			}
		}
	}
}

// fullWrites are ops with a room: whether it is full, and what is told till then, whatever the nursery is.
var fullWrites = []struct {
	ops  string
	room int
	told string
	full bool
}{
	{"leaf 1|show 0", 0, "", true},
	{"show 0|pair 0 0|first 0|drop 0|same 0 0|setfirst 0 0|setsecond 0 0|collect|minor", 0, "", false},
	{"leaf 1|show 0|leaf 2|show 0", 1, "1\n", true},
	{"leaf 1|show 0|pair 0 0|show 0", 1, "1\n", true},
	{"leaf 1|show 0|pair 0 0|setfirst 1 1|show 1", 2, "1\n((((* 1) 1) 1) 1)\n", false},
	// A young leaf, a young ring, an old leaf and an old ring that go.
	{"leaf 1|drop 0|leaf 2|drop 0|leaf 3|show 0", 1, "3\n", false},
	{"leaf 1|pair 0 0|setfirst 1 1|setsecond 1 1|drop 1|leaf 2|show 1|leaf 3", 2, "2\n", true},
	{"leaf 1|pair 0 0|pair 1 1|setfirst 1 2|drop 1|drop 1|leaf 2|leaf 3|show 1|show 2|leaf 4", 3, "2\n3\n", true},
	{"leaf 1|minor|drop 0|leaf 2|show 0", 1, "2\n", false},
	{"leaf 1|pair 0 0|setfirst 1 1|minor|drop 1|leaf 2|show 1|leaf 3", 2, "2\n", true},
	{"leaf 1|pair 0 0|pair 1 1|setfirst 1 2|collect|drop 1|drop 1|leaf 2|leaf 3|show 1|show 2|leaf 4", 3, "2\n3\n", true},
	// An old pair that none reaches holds a young cell, till all is collected.
	{"leaf 1|pair 0 0|minor|leaf 2|setfirst 1 2|drop 2|drop 1|leaf 3|leaf 4|show 1|show 2|leaf 5", 3, "3\n4\n", true},
	{"leaf 1|pair 0 0|minor|leaf 2|setfirst 1 2|drop 2|drop 1|minor|leaf 3|leaf 4|show 1|show 2|leaf 5", 3, "3\n4\n", true},
	// Parts that are written over let go what they named.
	{"leaf 1|leaf 2|pair 0 1|drop 1|leaf 9", 3, "", true},
	{"leaf 1|leaf 2|pair 0 1|drop 1|setsecond 1 0|leaf 9|show 1|show 2", 3, "(1 1)\n9\n", false},
	{"leaf 1|leaf 2|pair 0 1|collect|drop 1|setsecond 1 0|leaf 9|show 1|show 2|leaf 8", 3, "(1 1)\n9\n", true},
	{"leaf 1|leaf 2|pair 0 1|collect|drop 1|setsecond 1 1|leaf 9|show 1|show 2", 3, "(1 (1 (1 (1 *))))\n9\n", false},
	// An op that can not be done makes no cell, so it finds nothing full.
	{"leaf 1|pair 0 1|pair 1 0|pair -1 0|first 0|setfirst 0 0|none|show 0", 1, "1\n", false},
	{"leaf 1|pair 0 0|setfirst 1 1|show 1|first 1|second 1|same 1 2|same 0 3|collect|minor|drop 0|show 0", 2, "((((* 1) 1) 1) 1)\nsame\nsame\n((((* 1) 1) 1) 1)\n", false},
	{"leaf 5*60|leaf 7|pair 0 1|show 59", 60, "5\n", false},
	{"leaf 5*60|show 0", 59, "", true},
	{"leaf 5*59|show 0|leaf 6|show 59", 59, "5\n", true},
	{"leaf 5*59|show 0|leaf 6|show 59", 60, "5\n6\n", false},
	{"leaf 5|pair 0 0|drop 0|pair 0 0|drop 0|show 0|pair 0 0|drop 0|show 0", 3, "((5 5) (5 5))\n", true},
	{"leaf 5|pair 0 0|drop 0|pair 0 0|drop 0|show 0|setfirst 0 0|setsecond 0 0|leaf 1|leaf 2|show 2|leaf 3", 3, "((5 5) (5 5))\n2\n", true},
}

// Ahead of a new cell there is collected, and it ends where what is reached leaves no room, whatever the nursery is.
func TestFullWrites(t *testing.T) {
	for _, c := range fullWrites {
		l := writesOf(c.ops)
		for nursery := 1; nursery <= 64; nursery++ {
			told, full, ok := impl.PlayWrites(l, c.room, nursery)
			if told != c.told || full != c.full || !ok {
				t.Errorf("%s\nroom %d, nursery %d: %q, %v, %v; wanted %q, %v", c.ops, c.room, nursery, told, full, ok, c.told, c.full)
			}
			playsWrites(t, l, c.room, nursery)
		}
		if told := modelledWrites(t, l); !strings.HasPrefix(told, c.told) {
			t.Errorf("%s: told %q, by the model %q", c.ops, c.told, told)
		}
	}
}

// Beyond 60 roots there is none: neither a leaf nor a pair nor a part makes one; what makes none is done still.
func TestSixtyRootsOfWrites(t *testing.T) {
	for _, c := range [][2]string{
		{"leaf 5*60|show 59|show 60|leaf 7|show 59|show 60|pair 0 0|show 59|show 60", "5\n5\n5\n"},
		{"leaf 5*60|leaf 7|pair 0 0|drop 0|leaf 8|show 58|show 59|show 60", "5\n8\n"},
		{"leaf 1|leaf 2|pair 0 1|leaf 5*57|first 2|show 60|second 2|show 60|show 59", "5\n"},
		{"leaf 1|leaf 2|pair 0 1|leaf 5*56|first 2|show 59|second 2|show 60|drop 59|second 2|show 59|first 2|show 60", "1\n2\n"},
		{"leaf 1|leaf 2|pair 0 1|leaf 5*56|pair 2 2|show 59|pair 2 2|show 60", "((1 2) (1 2))\n"},
		{"leaf 1|leaf 2|pair 0 1|leaf 5*57|setfirst 2 1|setsecond 2 59|same 58 59|show 2|collect|show 2|drop 59|first 2|show 59", "other\n(2 5)\n(2 5)\n2\n"},
	} {
		l := writesOf(c[0])
		if told := playsWrites(t, l, impl.MaxCells, impl.MaxCells).told; told != c[1] || modelledWrites(t, l) != c[1] {
			t.Errorf("%s: %q; wanted %q", c[0], told, c[1])
		}
		for _, nursery := range []int{1, 30, 59, 60, 61} {
			for room := 55; room < 66; room++ {
				playsWrites(t, l, room, nursery)
			}
		}
	}
}

// Room and nursery at their edges, and one beyond.
func TestRoomAndNurseryEdgesOfWrites(t *testing.T) {
	l := writesOf("leaf 1|show 0|leaf 2|drop 0|show 0")
	for room, told := range map[int]string{0: "", 1: "1\n", 2: "1\n2\n", impl.MaxCells - 1: "1\n2\n", impl.MaxCells: "1\n2\n"} {
		for _, nursery := range []int{1, 2, impl.MaxCells - 1, impl.MaxCells} {
			if p := playsWrites(t, l, room, nursery); p != (heapPlay{told, room < 2}) {
				t.Errorf("room %d, nursery %d: %+v", room, nursery, p)
			}
		}
	}
	for _, room := range append(wrongInts(), impl.MaxCells+1) {
		noWrites(t, l, room, 1)
		noWrites(t, nil, room, impl.MaxCells)
	}
	for _, nursery := range append(wrongInts(), 0, impl.MaxCells+1) {
		noWrites(t, l, 0, nursery)
		noWrites(t, nil, impl.MaxCells, nursery)
	}
}

// All ops that there may be, and one more.
func TestManyWrites(t *testing.T) {
	for _, op := range []string{
		"leaf 5*149", "leaf 5|drop 0|leaf 5|drop 0|leaf 5*144|drop 0", "leaf 5|drop 7*148", "leaf 5|none*148", "leaf 5|show 0*148", "leaf 5|collect*148",
		"leaf 5|pair 0 0|setfirst 1 1*147", "leaf 5|pair 0 0|setsecond 1 0*147", "leaf 5|minor*148", "leaf 5|same 0 0*148",
	} {
		l := append(writesOf(op), writesOf("show 0")...)
		if len(l) != impl.MaxWriteOps {
			t.Fatalf("%s: %d ops", op, len(l))
		}
		if p := playsWrites(t, l, impl.MaxCells, 7); !strings.HasSuffix(p.told, "5\n") || p.full || modelledWrites(t, l) != p.told {
			t.Errorf("%s: %+v", op, p)
		}
		l = append(l, impl.HeapOp{Kind: impl.WriteShow})
		noWrites(t, l, impl.MaxCells, 7)
		told, ok := impl.ModelWrites(l)
		refused(t, "ModelWrites of one op too many", told, ok)
	}
	// The most cells that ops can make, all of them reached.
	l := writesOf("leaf 5|" + strings.Repeat("pair 0 0|drop 0|", 74) + "show 0")
	for room, full := range map[int]bool{74: true, 75: false} {
		if p := playsWrites(t, l, room, 1); p.full != full {
			t.Errorf("room %d: %+v", room, p)
		}
	}
}

// Promise 15 of drawn ops: what is told hangs on no room and no nursery, till it is full.
func TestDrawnWrites(t *testing.T) {
	d := &dice{state: 1523}
	lines, filled := 0, 0
	kinds := map[int]int{}
	for n := range 10000 {
		l := d.writeOps(d.below(60))
		if n%4 == 0 {
			l = d.writeOps(d.below(impl.MaxWriteOps + 1))
		}
		for _, op := range l {
			kinds[op.Kind]++
		}
		model := modelledWrites(t, l)
		lines += strings.Count(model, "\n")
		for range 4 {
			room, nursery := d.below(30), 1+d.below(20)
			if d.below(4) == 0 {
				room, nursery = d.below(impl.MaxCells+1), 1+d.below(impl.MaxCells)
			}
			playsWrites(t, l, room, nursery)
			told, full, ok := impl.PlayWrites(l, room, nursery)
			if full {
				filled++
			}
			if !ok || !full && told != model || !strings.HasPrefix(model, told) {
				t.Errorf("%v\nroom %d, nursery %d: %q, %v, %v; the model tells %q", l, room, nursery, told, full, ok, model)
			}
		}
	}
	if lines < 10000 || filled < 2000 {
		t.Errorf("only %d lines told, only %d times full", lines, filled)
	}
	for kind := impl.WriteLeaf; kind <= impl.WriteMinor; kind++ {
		if kinds[kind] < 3000 {
			t.Errorf("kind %d came only %d times", kind, kinds[kind])
		}
	}
}

// Every room and every nursery: it is full till there is room for all that is reached at once, and nobody sees when
// there was collected.
func TestEveryRoomAndNurseryOfWrites(t *testing.T) {
	d := &dice{state: 1531}
	for range 6 {
		l := d.writeOps(impl.MaxWriteOps)
		model := modelledWrites(t, l)
		for room := range impl.MaxCells + 1 {
			want := modelWrites(l, room, 1)
			for nursery := 1; nursery <= impl.MaxCells; nursery++ {
				told, full, ok := impl.PlayWrites(l, room, nursery)
				if (heapPlay{told, full}) != want || !ok || !full && told != model {
					t.Errorf("%v\nroom %d, nursery %d: %q, %v, %v; wanted %+v", l, room, nursery, told, full, ok, want)
				}
			}
		}
	}
}

// Every three ops behind an old pair and two leaves, with the young ones collected behind each.
func TestEveryShortWrites(t *testing.T) {
	words := strings.Split("leaf 7|pair 1 2|first 2|drop 0|drop 2|drop 3|setfirst 2 3|setsecond 2 3|setfirst 2 2|setsecond 2 0|setfirst 3 2|minor|collect", "|")
	for _, one := range words {
		for _, two := range words {
			for _, three := range words {
				text := "leaf 1|leaf 2|pair 0 1|minor|" + one + "|" + two + "|" + three + "|minor|show 0|show 1|show 2|show 3|same 0 1|same 2 3|leaf 4|leaf 5"
				l := writesOf(text)
				model := modelledWrites(t, l)
				for room := range 8 {
					if p := playsWrites(t, l, room, 1+room%4); !p.full && p.told != model {
						t.Errorf("%s\nroom %d: %q; the model tells %q", text, room, p.told, model)
					}
				}
			}
		}
	}
}

// A leaf keeps its number whatever it is, and whatever is written and collected around it.
func TestWrittenLeavesStayAsTheyAre(t *testing.T) {
	for _, n := range append(wrongInts(), 0, 1, math.MaxInt32) {
		leaf := []impl.HeapOp{{Kind: impl.WriteLeaf, A: n, B: n}}
		l := slices.Concat(writesOf("leaf 1|pair 0 0|minor"), leaf, writesOf("setfirst 1 2|drop 2|minor|collect|show 1|first 1|show 2"))
		want := "(" + strconv.Itoa(n) + " 1)\n" + strconv.Itoa(n) + "\n"
		if p := playsWrites(t, l, 3, 1); p.told != want || p.full || modelledWrites(t, l) != want {
			t.Errorf("a leaf of %d: %+v; wanted %q", n, p, want)
		}
	}
}
