package tests

import (
	"fmt"
	"slices"
	"strings"
	"testing"

	"loop.example/g00201/impl"
)

func TestGoodSymbol(t *testing.T) {
	good := []string{
		"a", "Z", "z9", "+", "-", "*", "/", "..", "...", ".a", "a.", "a.b", "-.", "+.", ".5", "1.5", "1+", "-1+", "1-", "--1", "+-1", "1/", "/1", "1/0", "-1/0", "0/0", "1//2", "1/2/3", "1/-2",
		"1a", "a1", "-a", "ff", "x1", "1e3", "set!", "call/cc", "let*", "->x", "<=?", "$%&", "a:b", "^_~", "@", "!",
		strings.Repeat("a", 30), strings.Repeat(".", 30), strings.Repeat("1", 29) + "x",
	}
	for _, s := range good {
		if !impl.GoodSymbol(s) {
			t.Errorf("GoodSymbol(%q) is false", s)
		}
	}
	wrong := []string{
		"", ".", "0", "1", "007", "+1", "-1", "-0", "+0", "1/2", "2/4", "-1/2", "+4/2", "0/5", "#x1", "#xff", "#d1", "#b1", "#o-7/3", "#t", "#f", "#", "#a", "a#", "#x",
		"a b", " a", "a ", "a\n", "a\t", "a(b", "(", ")", "a)", "'", "'a", "a'b", "\"", "a\"", ";", "a;b", ",", "a,b", "`", "[a]", "{a}", "a|b", "a\\b", "a\x00", "\x00", "a\x7f", "é", "a\xff", "\xff",
		strings.Repeat("a", 31), strings.Repeat("1", 30), strings.Repeat("1", 31), strings.Repeat(".", 31), strings.Repeat("a", 1<<20), strings.Repeat("1", 30) + "x",
	}
	for _, s := range wrong {
		if impl.GoodSymbol(s) {
			t.Errorf("GoodSymbol(%q) is true", short(s))
		}
	}
}

// Each byte that a symbol may have, alone, ahead, within and behind; no other byte.
func TestGoodSymbolOfAllBytes(t *testing.T) {
	const may = "abcdefghijklmnopqrstuvwxyzABCDEFGHIJKLMNOPQRSTUVWXYZ0123456789!$%&*/:<=>?^_~+-.@"
	for c := range 256 {
		text := string([]byte{byte(c)})
		want := strings.Contains(may, text)
		for _, s := range []string{"a" + text, text + "a", "a" + text + "a", strings.Repeat("a", 29) + text} {
			if impl.GoodSymbol(s) != want {
				t.Errorf("GoodSymbol(%q) is %v", s, !want)
			}
		}
		alone := want && text != "." && (c < '0' || c > '9')
		if impl.GoodSymbol(text) != alone {
			t.Errorf("GoodSymbol(%q) is %v", text, !alone)
		}
	}
}

func TestGoodDataOfForests(t *testing.T) {
	for _, f := range forests() {
		if !impl.GoodData(nodesOf(f)) {
			t.Errorf("GoodData(%v) is false", nodesOf(f))
		}
	}
}

// goodDatum holds GoodData of one node.
func goodDatum(t *testing.T, kind int, text string, want bool) {
	t.Helper()
	if impl.GoodData([]impl.Datum{{Kind: kind, Text: text, Up: -1}}) != want {
		t.Errorf("GoodData of kind %d and %q is %v", kind, short(text), !want)
	}
}

func TestGoodDataOfTexts(t *testing.T) {
	for _, s := range []string{"0", "-7", "1/2", "-1/2", nines(600), "-1/" + nines(600)} {
		goodDatum(t, impl.DatumNum, s, true)
	}
	for _, s := range wrongNums() {
		goodDatum(t, impl.DatumNum, s, false)
	}
	for _, s := range []string{"a", "...", "1+", "1/0", strings.Repeat("a", 30)} {
		goodDatum(t, impl.DatumSym, s, true)
	}
	for _, s := range []string{"", ".", "1", "+1", "1/2", "2/4", "#t", "a b", strings.Repeat("a", 31)} {
		goodDatum(t, impl.DatumSym, s, false)
	}
	for _, s := range []string{"t", "f", "", "true", "false", "#t", "#f", "T", "F", "tt", "t ", "0", "1"} {
		goodDatum(t, impl.DatumBool, s, s == "t" || s == "f")
	}
	for _, kind := range []int{impl.DatumList, impl.DatumDotted} {
		for _, s := range []string{"a", "()", " ", "\x00", "0"} {
			goodDatum(t, kind, s, false)
			inner := []impl.Datum{{Kind: kind, Text: s, Up: -1}, {Kind: impl.DatumSym, Text: "a", Up: 0}, {Kind: impl.DatumSym, Text: "b", Up: 0}}
			if impl.GoodData(inner) {
				t.Errorf("GoodData of a list with parts and the text %q is true", s)
			}
		}
	}
	goodDatum(t, impl.DatumList, "", true)
}

func TestGoodDataOfStrings(t *testing.T) {
	for c := range 256 {
		text := string([]byte{byte(c)})
		want := c == 10 || c >= 32 && c <= 126
		for _, s := range []string{text, "a" + text, text + "a", strings.Repeat("a", 99) + text} {
			goodDatum(t, impl.DatumStr, s, want)
		}
		goodDatum(t, impl.DatumStr, strings.Repeat("a", 100)+text, false)
		goodDatum(t, impl.DatumStr, strings.Repeat(text, 100), want)
	}
	goodDatum(t, impl.DatumStr, "", true)
	goodDatum(t, impl.DatumStr, "1/2 (a) #t . ;'", true)
}

func TestGoodDataOfKinds(t *testing.T) {
	for _, kind := range append(wrongInts(), -1, 0, 7, 8, 100) {
		if kind >= impl.DatumNum && kind <= impl.DatumDotted {
			continue
		}
		for _, text := range []string{"", "a", "1", "t"} {
			goodDatum(t, kind, text, false)
			if impl.GoodData([]impl.Datum{{Kind: impl.DatumList, Up: -1}, {Kind: kind, Text: text, Up: 0}}) {
				t.Errorf("GoodData of kind %d in a list is true", kind)
			}
		}
	}
}

func TestGoodDataOfUps(t *testing.T) {
	// (a (b) . c) d
	l := nodesOf([]tree{dottedTree(symTree("a"), listTree(symTree("b")), symTree("c")), symTree("d")})
	good := map[int][]int{0: {-1}, 1: {0}, 2: {0}, 3: {2, 0}, 4: {0}, 5: {0, -1}}
	for at := range l {
		for _, up := range append(wrongInts(), -3, -2, 0, 1, 2, 3, 4, 5, 6, 7) {
			changed := slices.Clone(l)
			changed[at].Up = up
			if want := slices.Contains(good[at], up); impl.GoodData(changed) != want {
				t.Errorf("GoodData with the Up %d at %d is %v", up, at, !want)
			}
		}
	}
}

// smallForests are all data of just so many nodes, a symbol, a list and a dotted one being all kinds.
func smallForests(nodes int) [][]tree {
	if nodes == 0 {
		return [][]tree{nil}
	}
	var out [][]tree
	for first := 1; first <= nodes; first++ {
		for _, head := range smallTrees(first) {
			for _, tail := range smallForests(nodes - first) {
				out = append(out, append([]tree{head}, tail...))
			}
		}
	}
	return out
}

func smallTrees(nodes int) []tree {
	var out []tree
	if nodes == 1 {
		out = append(out, symTree("a"))
	}
	for _, inner := range smallForests(nodes - 1) {
		out = append(out, listTree(inner...))
		if len(inner) >= 2 && inner[len(inner)-1].kind == impl.DatumSym {
			out = append(out, dottedTree(inner...))
		}
	}
	return out
}

// Of all lists of up to four nodes just those are good that some data are.
func TestGoodDataOfAllSmall(t *testing.T) {
	good := map[string]bool{}
	for nodes := range 5 {
		for _, f := range smallForests(nodes) {
			good[key(nodesOf(f))] = true
		}
	}
	found := 0
	var try func(l []impl.Datum)
	try = func(l []impl.Datum) {
		is := impl.GoodData(l)
		if is != good[key(l)] {
			t.Errorf("GoodData(%v) is %v", l, is)
		}
		if is {
			found++
		}
		if len(l) == 4 {
			return
		}
		for up := -2; up <= 4; up++ {
			for _, d := range []impl.Datum{{Kind: impl.DatumSym, Text: "a", Up: up}, {Kind: impl.DatumList, Up: up}, {Kind: impl.DatumDotted, Up: up}} {
				try(append(slices.Clone(l), d))
			}
		}
	}
	try(nil)
	if found != len(good) {
		t.Error(found, "of", len(good), "good data were found")
	}
}

func TestGoodDataLimits(t *testing.T) {
	a := symTree("a")
	rows := []struct {
		what   string
		forest []tree
		want   bool
	}{
		{"no nodes", nil, true},
		{"300 nodes", symbols(300), true}, {"301 nodes", symbols(301), false},
		{"300 nodes in a list", []tree{listTree(symbols(299)...)}, true}, {"301 nodes in a list", []tree{listTree(symbols(300)...)}, false},
		{"25 lists", nested(25), true}, {"26 lists", nested(26), false}, {"25 lists and a symbol", nested(25, a), true}, {"26 lists and a symbol", nested(26, a), false},
		{"a dotted one in 24", nested(24, dottedTree(a, a)), true}, {"a dotted one in 25", nested(25, dottedTree(a, a)), false},
		{"25 lists twice", append(nested(25, a), nested(25)...), true}, {"two lists in 24", nested(24, listTree(a), a, listTree()), true}, {"26 lists behind 25", append(nested(25), nested(26)...), false},
		{"12 lists in 12 behind 12", nested(12, append(nested(12, a), nested(13, a)...)...), true}, {"14 lists in 12 behind 12", nested(12, append(nested(12, a), nested(14)...)...), false},
	}
	for _, r := range rows {
		if impl.GoodData(nodesOf(r.forest)) != r.want {
			t.Errorf("GoodData of %s is %v", r.what, !r.want)
		}
	}
}

func TestGoodDataOfDotted(t *testing.T) {
	a, b := symTree("a"), strTree("b")
	good := []tree{dottedTree(a, b), dottedTree(a, a, b), dottedTree(listTree(), a), dottedTree(listTree(a, b), a), dottedTree(dottedTree(a, b), a), dottedTree(a, listTree(b), numTree("1/2")), listTree(dottedTree(a, boolTree("f")))}
	for _, f := range good {
		if !impl.GoodData(nodesOf([]tree{f})) || !impl.GoodData(nodesOf([]tree{f, a})) {
			t.Errorf("GoodData of %v is false", f)
		}
	}
	wrong := []tree{
		dottedTree(), dottedTree(a), dottedTree(listTree()), dottedTree(listTree(a, b)), dottedTree(a, listTree()), dottedTree(a, listTree(a)), dottedTree(a, b, listTree(a, b)),
		dottedTree(a, dottedTree(a, b)), dottedTree(listTree(), listTree()), listTree(dottedTree(a), a), listTree(a, dottedTree()), dottedTree(dottedTree(a), a),
	}
	for _, f := range wrong {
		if impl.GoodData(nodesOf([]tree{f})) || impl.GoodData(nodesOf([]tree{f, a})) || impl.GoodData(nodesOf([]tree{a, f})) {
			t.Errorf("GoodData of %v is true", f)
		}
	}
}

func TestDataText(t *testing.T) {
	a, b := symTree("a"), symTree("b")
	rows := []struct {
		forest []tree
		want   string
	}{
		{nil, ""}, {[]tree{a}, "a"}, {[]tree{a, b}, "a b"}, {[]tree{numTree("-1/2"), numTree("0")}, "-1/2 0"}, {[]tree{boolTree("t"), boolTree("f")}, "#t #f"},
		{[]tree{listTree()}, "()"}, {[]tree{listTree(), listTree(listTree())}, "() (())"}, {[]tree{listTree(a, listTree(b), a)}, "(a (b) a)"},
		{[]tree{dottedTree(a, b)}, "(a . b)"}, {[]tree{dottedTree(a, b, a), b}, "(a b . a) b"}, {[]tree{dottedTree(listTree(a), b)}, "((a) . b)"}, {[]tree{dottedTree(listTree(), b)}, "(() . b)"},
		{[]tree{listTree(dottedTree(a, b), dottedTree(a, numTree("1")))}, "((a . b) (a . 1))"}, {[]tree{dottedTree(dottedTree(a, b), strTree("x"))}, `((a . b) . "x")`},
		{[]tree{listTree(symTree("quote"), a)}, "(quote a)"}, {[]tree{strTree("")}, `""`}, {[]tree{strTree("a\"b\\c\nd")}, `"a\"b\\c\nd"`}, {[]tree{strTree("\\n")}, `"\\n"`}, {[]tree{strTree("; ( '")}, `"; ( '"`},
		{[]tree{numTree(nines(600))}, nines(600)}, {nested(25), strings.Repeat("(", 25) + strings.Repeat(")", 25)},
	}
	for _, r := range rows {
		got, ok := impl.DataText(nodesOf(r.forest))
		told(t, fmt.Sprint("DataText ", r.forest), got, ok, r.want)
	}
	for _, f := range forests() {
		got, ok := impl.DataText(nodesOf(f))
		if want := textOf(f); len(want) <= 1500 {
			told(t, "DataText", got, ok, want)
		} else {
			refused(t, "DataText", got, ok)
		}
	}
}

// Data whose texts have just so many bytes, made in several ways.
func TestDataTextLimits(t *testing.T) {
	long := numTree(nines(600))
	makers := map[string]func(n int) []tree{
		"numbers":   func(n int) []tree { return []tree{long, long, numTree(nines(n - 1202))} },
		"a list":    func(n int) []tree { return []tree{listTree(long, long, numTree(nines(n-1204)))} },
		"a dotted":  func(n int) []tree { return []tree{dottedTree(long, long, numTree(nines(n-1206)))} },
		"strings":   func(n int) []tree { return append(quotes(7), numTree(nines(n-1421))) },
		"booleans":  func(n int) []tree { return []tree{long, long, boolTree("t"), numTree(nines(n - 1205))} },
		"300 nodes": func(n int) []tree { return append(symbols(298), long, numTree(nines(n-1197))) },
	}
	for what, make := range makers {
		for _, n := range []int{1498, 1499, 1500, 1501, 1502} {
			f := make(n)
			if len(textOf(f)) != n {
				t.Fatal(what, n, "bytes are", len(textOf(f)))
			}
			got, ok := impl.DataText(nodesOf(f))
			if n <= 1500 {
				told(t, fmt.Sprint("DataText of ", what, n), got, ok, textOf(f))
				readTold(t, got, f)
			} else {
				refused(t, fmt.Sprint("DataText of ", what, n), got, ok)
				readFails(t, textOf(f), impl.ReadLong)
			}
		}
	}
}

// quotes are so many strings of a hundred ", each of which is told by two bytes.
func quotes(many int) []tree {
	return slices.Repeat([]tree{strTree(strings.Repeat("\"", 100))}, many)
}

func TestSameData(t *testing.T) {
	for _, f := range forests()[:600] {
		l := nodesOf(f)
		if same, ok := impl.SameData(l, slices.Clone(l)); !same || !ok {
			t.Errorf("SameData of %v and itself: %v, %v", l, same, ok)
		}
		longer := append(slices.Clone(l), impl.Datum{Kind: impl.DatumSym, Text: "a", Up: -1})
		if len(longer) <= 300 {
			differ(t, l, longer)
		}
	}
	if same, ok := impl.SameData(nil, []impl.Datum{}); !same || !ok {
		t.Error("no data are not the same as none", same, ok)
	}
}

// differ asks, both ways round, for data that are not the same.
func differ(t *testing.T, a []impl.Datum, b []impl.Datum) {
	t.Helper()
	for _, pair := range [][2][]impl.Datum{{a, b}, {b, a}} {
		if same, ok := impl.SameData(pair[0], pair[1]); same || !ok {
			t.Errorf("SameData(%v, %v): %v, %v", pair[0], pair[1], same, ok)
		}
	}
}

// Data that differ in one Kind, Text or Up, or in how many they are.
func TestSameDataOfOthers(t *testing.T) {
	a, b := symTree("a"), symTree("b")
	rows := [][2][]tree{
		{{a}, {b}}, {{a}, {strTree("a")}}, {{symTree("t")}, {boolTree("t")}}, {{symTree("t")}, {strTree("t")}}, {{boolTree("t")}, {boolTree("f")}}, {{numTree("1")}, {strTree("1")}}, {{numTree("1")}, {numTree("-1")}},
		{{numTree("1/2")}, {numTree("1/3")}}, {{listTree(a, b)}, {dottedTree(a, b)}}, {{listTree()}, {listTree(listTree())}}, {{listTree(), a}, {listTree(a)}}, {{listTree(a), b}, {listTree(a, b)}}, {{listTree(listTree(a), b)}, {listTree(listTree(a, b))}},
		{{symTree("A")}, {a}}, {{strTree("")}, {strTree(" ")}}, {{strTree("\n")}, {strTree("n")}}, {nil, {a}}, {{a}, {a, a}}, {{strTree("")}, {listTree()}}, {symbols(300), symbols(299)},
		{nested(25), nested(24)}, {nested(25, a), nested(25, b)}, {append(symbols(299), a), append(symbols(299), b)}, {append([]tree{b}, symbols(299)...), symbols(300)},
	}
	for _, r := range rows {
		differ(t, nodesOf(r[0]), nodesOf(r[1]))
	}
}

// Promise 3, there and back: what DataText tells is read as the same data.
func TestDataComeBack(t *testing.T) {
	back := 0
	for _, f := range forests() {
		l := nodesOf(f)
		text, ok := impl.DataText(l)
		if !ok {
			continue
		}
		read, code := impl.ReadData(text)
		if same, ok := impl.SameData(l, read); code != impl.ReadOk || !same || !ok {
			t.Errorf("%q is read as %v, %d", short(text), read, code)
		}
		back++
	}
	if back < 1000 {
		t.Error("only", back, "came back")
	}
}
