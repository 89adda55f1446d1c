package tests

import (
	"fmt"
	"slices"
	"strings"
	"testing"
	"time"

	"loop.example/g00201/impl"
)

// wrongData are nodes that are no good data, one wrong way each.
func wrongData() [][]impl.Datum {
	a := impl.Datum{Kind: impl.DatumSym, Text: "a", Up: -1}
	list := impl.Datum{Kind: impl.DatumList, Up: -1}
	out := [][]impl.Datum{
		make([]impl.Datum, 1), make([]impl.Datum, 300), make([]impl.Datum, 301), make([]impl.Datum, 100000), {{}}, {a, {}}, {{}, a}, {list, {}}, {list, {Up: -1}},
		{{Kind: impl.DatumSym, Text: "a", Up: 0}}, {a, {Kind: impl.DatumSym, Text: "a", Up: 0}}, {a, {Kind: impl.DatumList, Up: 0}}, {list, {Kind: impl.DatumList, Up: 1}}, {list, a, {Kind: impl.DatumSym, Text: "a", Up: 0}},
		{{Kind: impl.DatumDotted, Up: -1}}, {{Kind: impl.DatumDotted, Up: -1}, {Kind: impl.DatumSym, Text: "a", Up: 0}}, {{Kind: impl.DatumList, Text: "a", Up: -1}}, {{Kind: impl.DatumBool, Up: -1}}, {{Kind: impl.DatumNum, Up: -1}}, {{Kind: impl.DatumSym, Up: -1}},
		nodesOf(symbols(301)), nodesOf(nested(26)), nodesOf([]tree{dottedTree(symTree("a"), listTree())}), nodesOf([]tree{numTree("2/4")}), nodesOf([]tree{strTree("\x7f")}), nodesOf([]tree{strTree(strings.Repeat("a", 101))}),
		nodesOf([]tree{symTree(strings.Repeat("a", 1<<20))}), nodesOf([]tree{numTree(strings.Repeat("1", 1<<20))}), nodesOf([]tree{strTree(strings.Repeat("\n", 1<<20))}), nodesOf([]tree{listTree(symTree("1"))}),
	}
	for _, n := range append(wrongInts(), -3, 0, 7, 8) {
		if n != -1 {
			out = append(out, []impl.Datum{{Kind: impl.DatumSym, Text: "a", Up: n}}, []impl.Datum{{Kind: impl.DatumDotted, Up: n}})
		}
		out = append(out, []impl.Datum{{Kind: n, Text: "a", Up: -1}}, []impl.Datum{{Kind: n, Up: -1}}, []impl.Datum{list, {Kind: n, Text: "1", Up: 0}})
	}
	return out
}

func TestWrongData(t *testing.T) {
	good := [][]impl.Datum{nil, {}, nodesOf(symbols(1)), nodesOf(nested(25)), nodesOf(symbols(300))}
	for _, wrong := range wrongData() {
		if impl.GoodData(wrong) {
			t.Errorf("GoodData(%s) is true", short(fmt.Sprint(wrong)))
		}
		got, ok := impl.DataText(wrong)
		refused(t, "DataText "+short(fmt.Sprint(wrong)), got, ok)
		for _, right := range append(good, wrong) {
			for _, pair := range [][2][]impl.Datum{{wrong, right}, {right, wrong}} {
				if same, ok := impl.SameData(pair[0], pair[1]); same || ok {
					t.Errorf("SameData(%s, %s): %v, %v", short(fmt.Sprint(pair[0])), short(fmt.Sprint(pair[1])), same, ok)
				}
			}
		}
	}
}

func TestNoData(t *testing.T) {
	for _, none := range [][]impl.Datum{nil, {}, make([]impl.Datum, 0, 5)} {
		if !impl.GoodData(none) {
			t.Error("no data are not good")
		}
		got, ok := impl.DataText(none)
		told(t, "DataText of none", got, ok, "")
		if same, ok := impl.SameData(none, nil); !same || !ok {
			t.Error("no data are not the same as none:", same, ok)
		}
	}
}

// Nodes of any ints and texts have an answer, and where they are good they come back.
func TestDataOfAnyNodes(t *testing.T) {
	d := &dice{state: 47}
	good := 0
	for range 100000 {
		l := make([]impl.Datum, d.below(5))
		for at := range l {
			l[at] = impl.Datum{Kind: d.below(8), Text: []string{"", "a", "1", "t", "."}[d.below(5)], Up: d.below(at+3) - 2}
		}
		text, ok := impl.DataText(l)
		if ok != impl.GoodData(l) {
			t.Errorf("DataText(%v): %q, %v", l, text, ok)
		}
		if !ok {
			refused(t, "DataText", text, ok)
			continue
		}
		good++
		if read, code := impl.ReadData(text); code != impl.ReadOk || !slices.Equal(read, l) {
			t.Errorf("%v is told as %q, and read as %v, %d", l, text, read, code)
		}
	}
	if good < 1000 {
		t.Error("only", good, "were good")
	}
}

// Texts of any bytes have an answer: good data, or none and a code.
func TestReadDataOfAnyBytes(t *testing.T) {
	d := &dice{state: 53}
	for range 30000 {
		text := make([]byte, d.below(40))
		for at := range text {
			text[at] = byte(d.below(256))
		}
		readAsModel(t, string(text))
	}
	for a := range 256 {
		for b := range 256 {
			readAsModel(t, string([]byte{byte(a), byte(b)}))
		}
	}
}

// spare gives a list with room behind its length, and nodes there that nobody may read, write or hand out.
func spare(l []impl.Datum) []impl.Datum {
	out := append(slices.Clone(l), impl.Datum{Kind: impl.DatumSym, Text: "behind", Up: -1}, impl.Datum{Kind: 99, Text: ".", Up: 77})
	return out[:len(l)]
}

func TestDataAreNotWritten(t *testing.T) {
	all := forests()
	for at, f := range all[:300] {
		l := spare(nodesOf(f))
		other := spare(nodesOf(all[at+1]))
		before, otherBefore := slices.Clone(l[:len(l)+2]), slices.Clone(other[:len(other)+2])
		impl.GoodData(l)
		text, ok := impl.DataText(l)
		impl.SameData(l, other)
		impl.SameData(other, l)
		if !slices.Equal(l[:len(l)+2], before) || !slices.Equal(other[:len(other)+2], otherBefore) {
			t.Fatalf("%v was written into", before)
		}
		if want := textOf(f); ok && text != want {
			t.Errorf("DataText with room behind: %q", short(text))
		}
	}
	for _, wrong := range wrongData() {
		l := spare(wrong)
		before := slices.Clone(l[:len(l)+2])
		impl.GoodData(l)
		impl.DataText(l)
		impl.SameData(l, l)
		if !slices.Equal(l[:len(l)+2], before) {
			t.Fatalf("%s was written into", short(fmt.Sprint(before)))
		}
	}
}

// What is read is new memory every time.
func TestReadDataAnswersAreNew(t *testing.T) {
	for _, text := range []string{"(a . b) 'c", strings.Repeat("a ", 300), "#t"} {
		first, _ := impl.ReadData(text)
		kept := slices.Clone(first)
		second, _ := impl.ReadData(text)
		for at := range second {
			second[at] = impl.Datum{Kind: 77, Text: "changed", Up: 9}
		}
		if !slices.Equal(first, kept) {
			t.Errorf("two answers to %q share memory", short(text))
		}
	}
}

// The longest texts, the deepest lists and the greatest numbers are answered at once.
func TestDataInGoodTime(t *testing.T) {
	d := &dice{state: 59}
	heavy := nodesOf(slices.Repeat([]tree{numTree(d.num(600, 600))}, 300))
	inTime(t, 60*time.Second, func() {
		impl.GoodData(heavy)
		impl.DataText(heavy)
		impl.SameData(heavy, heavy)
		for _, part := range []string{"(", ")", "'", "\"", ";", "a", "1", "#", ".", "\\", "1/", " ", "\n", "\xff", "\"a\"", "(a . b)"} {
			for _, many := range []int{1, 300, 1500, 1 << 20} {
				impl.GoodSymbol(strings.Repeat(part, many))
				l, code := impl.ReadData(strings.Repeat(part, many))
				if code != impl.ReadOk && len(l) != 0 {
					t.Errorf("%q, %d times: %d nodes, code %d", part, many, len(l), code)
				}
			}
		}
		ring := make([]impl.Datum, 300)
		for at := range ring {
			ring[at] = impl.Datum{Kind: impl.DatumList, Up: (at + 1) % 300}
		}
		if impl.GoodData(ring) {
			t.Error("lists in a ring are good")
		}
	})
}
