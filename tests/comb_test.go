package tests

import (
	"fmt"
	"math"
	"slices"
	"strings"
	"testing"

	"loop.example/g00201/impl"
)

func isGoodComb(t *testing.T, l []impl.Comb, want bool) {
	t.Helper()
	if impl.GoodComb(l) != want {
		t.Errorf("GoodComb(%s) is %v", short(fmt.Sprint(l)), !want)
	}
	if modelGoodComb(l) != want {
		t.Errorf("the model takes %s for %v", short(fmt.Sprint(l)), !want)
	}
}

func TestCombLimits(t *testing.T) {
	if impl.MaxComb != 200 || impl.CombVar != 1 || impl.CombApp != 2 || impl.CombS != 3 || impl.CombK != 4 || impl.CombI != 5 {
		t.Error("the constants are not those of the chapter")
	}
}

// As applications have two parts there is no combinator of just MaxComb nodes: 199 are the most.
func TestGoodCombOfManyNodes(t *testing.T) {
	isGoodComb(t, nil, false)
	isGoodComb(t, []impl.Comb{}, false)
	for _, leaf := range []string{"x0", "x999", "S", "K", "I"} {
		for nodes := 1; nodes <= 205; nodes += 2 {
			l := combIn(wideComb(nodes, leaf))
			if len(l) != nodes {
				t.Fatalf("wideComb(%d) has %d nodes", nodes, len(l))
			}
			isGoodComb(t, l, nodes <= 199)
			for up := -1; up < nodes; up += 7 {
				isGoodComb(t, append(slices.Clone(l), impl.Comb{Kind: impl.CombS, Up: up}), false)
			}
			isGoodComb(t, l[:nodes-1], false)
		}
	}
}

func TestGoodCombOfDeepNodes(t *testing.T) {
	deep := map[string]func(nodes int) string{
		"first parts":  func(nodes int) string { return appliedTo("x0", nodes-1, "S") },
		"second parts": func(nodes int) string { return behindAll("K", nodes-1, "I") },
		"both":         func(nodes int) string { return appliedTo(behindAll("x1", nodes/2, "x2"), nodes-1-nodes/2, "x3") },
	}
	for what, text := range deep {
		for _, nodes := range []int{3, 59, 60, 61, 62} {
			l := combIn(text(nodes))
			if impl.GoodComb(l) != (nodes <= 60) || modelGoodComb(l) != (nodes <= 60) {
				t.Errorf("%s, %d nodes around one: %v", what, nodes, impl.GoodComb(l))
			}
		}
	}
}

func TestGoodCombOfNumbers(t *testing.T) {
	for _, n := range append(wrongInts(), -1000, -999, 0, 1, 2, 99, 100, 998, 999, 1000, 1001) {
		isVar := n >= 0 && n <= 999
		isGoodComb(t, []impl.Comb{{Kind: impl.CombVar, N: n, Up: -1}}, isVar)
		isGoodComb(t, []impl.Comb{{Kind: impl.CombApp, Up: -1}, {Kind: impl.CombVar, N: n}, {Kind: impl.CombVar, N: 999}}, isVar)
		isGoodComb(t, []impl.Comb{{Kind: impl.CombApp, Up: -1}, {Kind: impl.CombI}, {Kind: impl.CombVar, N: n}}, isVar)
		isGoodComb(t, []impl.Comb{{Kind: impl.CombApp, N: n, Up: -1}, {Kind: impl.CombVar}, {Kind: impl.CombVar}}, n == 0)
		for _, kind := range []int{impl.CombS, impl.CombK, impl.CombI} {
			isGoodComb(t, []impl.Comb{{Kind: kind, N: n, Up: -1}}, n == 0)
			isGoodComb(t, []impl.Comb{{Kind: impl.CombApp, Up: -1}, {Kind: kind}, {Kind: kind, N: n}}, n == 0)
		}
	}
}

// Each kind with no part, one, two and three.
func TestGoodCombOfKinds(t *testing.T) {
	for _, kind := range append(wrongInts(), -3, 0, 1, 2, 3, 4, 5, 6, 7) {
		isLeaf := kind == 1 || kind >= 3 && kind <= 5
		for _, part := range []int{impl.CombVar, impl.CombS, impl.CombK, impl.CombI} {
			p := impl.Comb{Kind: part}
			isGoodComb(t, []impl.Comb{{Kind: kind, Up: -1}}, isLeaf)
			isGoodComb(t, []impl.Comb{{Kind: kind, Up: -1}, p}, false)
			isGoodComb(t, []impl.Comb{{Kind: kind, Up: -1}, p, p}, kind == impl.CombApp)
			isGoodComb(t, []impl.Comb{{Kind: kind, Up: -1}, p, p, p}, false)
			isGoodComb(t, []impl.Comb{{Kind: impl.CombApp, Up: -1}, {Kind: kind}, p}, isLeaf)
			isGoodComb(t, []impl.Comb{{Kind: impl.CombApp, Up: -1}, p, {Kind: kind}}, isLeaf)
			isGoodComb(t, []impl.Comb{{Kind: impl.CombApp, Up: -1}, p, {Kind: kind}, {Kind: part, Up: 2}}, false)
		}
	}
}

// Any one Up that is changed makes a combinator none: its parts are too many elsewhere and too few here.
func TestGoodCombOfUps(t *testing.T) {
	for _, text := range []string{"x0", "S", "(K I)", "((S K) K)", "(S (K K))", "((x1 (S x2)) ((K I) (x3 x4)))", "(((S x1) x2) (x3 (x4 K)))", wideComb(31, "I")} {
		l := combIn(text)
		isGoodComb(t, l, true)
		for at, n := range l {
			ups := wrongInts()
			for up := -2; up <= len(l)+1; up++ {
				ups = append(ups, up)
			}
			for _, up := range ups {
				changed := slices.Clone(l)
				changed[at].Up = up
				isGoodComb(t, changed, up == n.Up)
			}
		}
		isGoodComb(t, l[1:], false)
		isGoodComb(t, l[:len(l)-1], false)
		isGoodComb(t, append(slices.Clone(l), impl.Comb{Kind: impl.CombVar, Up: -1}), false)
		isGoodComb(t, append(slices.Clone(l), l...), false)
	}
}

func TestGoodCombOfAllSmallLists(t *testing.T) {
	good := 0
	try := func(nodes []impl.Term) {
		l := make([]impl.Comb, len(nodes))
		for at, n := range nodes {
			l[at] = impl.Comb(n)
		}
		want := modelGoodComb(l)
		if impl.GoodComb(l) != want {
			t.Fatalf("GoodComb(%v) is %v", l, !want)
		}
		if want {
			good++
		}
	}
	eachList(3, []int{0, 1, 2, 3, 4, 5, 6}, []int{-1, 0, 1}, -2, try)
	eachList(5, []int{1, 2, 3}, []int{0}, -1, try)
	eachList(6, []int{2, 5}, []int{0}, -1, try)
	if good < 50 {
		t.Errorf("only %d are good", good)
	}
}

func TestCombsOfEndsOfInt(t *testing.T) {
	for _, n := range []int{math.MinInt, math.MinInt + 1, math.MaxInt - 1, math.MaxInt} {
		for _, l := range [][]impl.Comb{
			{{Kind: n, N: n, Up: n}}, {{Kind: impl.CombVar, N: n, Up: -1}}, {{Kind: impl.CombVar, Up: n}}, {{Kind: impl.CombK, Up: n}}, {{Kind: impl.CombK, N: n, Up: -1}}, {{Kind: n, Up: -1}},
			{{Kind: impl.CombApp, Up: -1}, {Kind: impl.CombVar}, {Kind: impl.CombVar, Up: n}}, {{Kind: impl.CombApp, Up: -1}, {Kind: impl.CombVar, Up: n}, {Kind: impl.CombVar}}, {{Kind: impl.CombApp, Up: n}, {Kind: impl.CombVar}, {Kind: impl.CombVar}}, {{Kind: impl.CombApp, N: n, Up: -1}, {Kind: impl.CombVar}, {Kind: impl.CombVar}},
		} {
			isGoodComb(t, l, false)
		}
	}
}

func isSpelledComb(t *testing.T, l []impl.Comb, want string) {
	t.Helper()
	text, ok := impl.CombText(l)
	told(t, "CombText", text, ok, want)
	got, ok := impl.ReadComb(want)
	toldComb(t, fmt.Sprintf("ReadComb(%q)", short(want)), got, ok, l, true)
}

func TestCombTextsByHand(t *testing.T) {
	v := func(n int, up int) impl.Comb { return impl.Comb{Kind: impl.CombVar, N: n, Up: up} }
	app := func(up int) impl.Comb { return impl.Comb{Kind: impl.CombApp, Up: up} }
	s := func(up int) impl.Comb { return impl.Comb{Kind: impl.CombS, Up: up} }
	k := func(up int) impl.Comb { return impl.Comb{Kind: impl.CombK, Up: up} }
	i := func(up int) impl.Comb { return impl.Comb{Kind: impl.CombI, Up: up} }
	isSpelledComb(t, []impl.Comb{v(0, -1)}, "x0")
	isSpelledComb(t, []impl.Comb{v(9, -1)}, "x9")
	isSpelledComb(t, []impl.Comb{v(10, -1)}, "x10")
	isSpelledComb(t, []impl.Comb{v(100, -1)}, "x100")
	isSpelledComb(t, []impl.Comb{v(999, -1)}, "x999")
	isSpelledComb(t, []impl.Comb{s(-1)}, "S")
	isSpelledComb(t, []impl.Comb{k(-1)}, "K")
	isSpelledComb(t, []impl.Comb{i(-1)}, "I")
	isSpelledComb(t, []impl.Comb{app(-1), s(0), k(0)}, "(S K)")
	isSpelledComb(t, []impl.Comb{app(-1), app(0), s(1), k(1), i(0)}, "((S K) I)")
	isSpelledComb(t, []impl.Comb{app(-1), i(0), app(0), v(12, 2), v(0, 2)}, "(I (x12 x0))")
	isSpelledComb(t, []impl.Comb{app(-1), app(0), app(1), k(2), v(1, 2), s(1), app(0), app(6), v(2, 7), v(3, 7), i(6)}, "(((K x1) S) ((x2 x3) I))")
}

// 59 applications around each other and a leaf are as deep as may be; the longest texts have 697 bytes.
func TestCombTextsOfTheGreatest(t *testing.T) {
	for _, text := range []string{appliedTo("x0", 59, "K"), behindAll("S", 59, "I"), appliedTo("S", 59, "x999"), behindAll("x999", 59, "x100"), wideComb(199, "x999"), wideComb(199, "S"), appliedTo(behindAll("I", 29, "x7"), 30, "x8")} {
		isSpelledComb(t, combIn(text), text)
	}
	if most := len(wideComb(199, "x999")); most != 100*4+99*3 {
		t.Errorf("the greatest text has %d bytes", most)
	}
	for _, text := range []string{
		appliedTo("x0", 60, "K"), behindAll("S", 60, "I"), wideComb(201, "S"), wideComb(201, "x0"), wideComb(203, "x999"), wideComb(265, "I"), wideComb(267, "I"), wideComb(401, "K"), wideComb(2001, "I"),
		"x1000", "(x1000 S)", "(S x1000)", "x9999", "x1001", "((S x0) (K x12345))", "(x0 x2147483648)",
	} {
		l, ok := impl.ReadComb(text)
		isComb(t, fmt.Sprintf("ReadComb(%q)", short(text)), l, ok, "")
		told, ok := impl.CombText(combIn(text))
		refused(t, "CombText "+short(text), told, ok)
	}
}

// readCombAsModel holds ReadComb against the model, and says whether it reads a text.
func readCombAsModel(t *testing.T, text string) bool {
	t.Helper()
	var want []impl.Comb
	r, wantOk := combRowOf(text)
	if wantOk {
		want, wantOk = r.told()
	}
	got, ok := impl.ReadComb(text)
	toldComb(t, fmt.Sprintf("ReadComb(%q)", short(text)), got, ok, want, wantOk)
	return ok
}

func TestReadCombOfWrongTexts(t *testing.T) {
	for _, text := range []string{
		"", " ", "x", "X0", "x00", "x01", "x007", "x0999", "x-1", "x-0", "x+1", "x 1", "x1.0", "x1e2", "xx", "xS", "x1x2", "x1 x2", "0", "1", "s", "k", "i", "B", "SK", "S K", "S ", " S", "S\n", "S)", "(S", "(", ")", "()", "( )", "(S)", "(S )", "( S)",
		"(SK)", "(S  K)", "( S K)", "(S K )", "(S K", "S K)", "(S K))", "((S K)", "(S K I)", "(S\tK)", "(S\nK)", "(S,K)", "(S K]", "[S K]", "(S K)(S K)", "(S K) ", " (S K)", "(S K)I", "(S(K I))", "((S K)I)", "((S K) )", "( (S K))", "(x S)", "(S x)", "(x K)", "(x0x1)", "(x0 x01)", "(x1 x)",
		"\x00", "S\x00", "\xff", "x1\x80", "x٣", "x１", "Ｓ", "x9223372036854775807", "x9223372036854775808", "x18446744073709551616", "x18446744073709551617", "x" + strings.Repeat("0", 100), "x" + strings.Repeat("9", 100), strings.Repeat("(", 50), strings.Repeat("S", 50),
	} {
		l, ok := impl.ReadComb(text)
		isComb(t, fmt.Sprintf("ReadComb(%q)", text), l, ok, "")
		if readCombAsModel(t, text) {
			t.Errorf("%q is read", text)
		}
	}
	// Each good text with any one byte left out, put in or changed is read as the model reads it.
	for _, text := range []string{"x0", "x10", "x999", "S", "(K I)", "((S x1) x20)", "(x3 (K (S I)))"} {
		for at := range len(text) + 1 {
			for c := range 256 {
				sign := string([]byte{byte(c)})
				readCombAsModel(t, text[:at]+sign+text[at:])
				if at < len(text) {
					readCombAsModel(t, text[:at]+sign+text[at+1:])
					readCombAsModel(t, text[:at]+text[at+1:])
				}
			}
		}
	}
}

func TestReadCombOfAllSmallTexts(t *testing.T) {
	read := 0
	var try func(text string, left int, signs string)
	try = func(text string, left int, signs string) {
		if readCombAsModel(t, text) {
			read++
			back, ok := impl.CombText(combIn(text))
			told(t, "CombText", back, ok, text)
		}
		if left == 0 {
			return
		}
		for _, c := range []byte(signs) {
			try(text+string(c), left-1, signs)
		}
	}
	try("", 5, "() xSKI01")
	try("", 7, "() x0S")
	try("", 9, "() K")
	if read < 30 {
		t.Errorf("only %d texts are read", read)
	}
}

func TestCombsComeBack(t *testing.T) {
	for _, l := range append(drawnCombs(1601, 3000, 15), drawnCombs(1607, 500, 100)...) {
		isGoodComb(t, l, true)
		isSpelledComb(t, l, spellComb(l))
	}
	for n := range 1000 {
		isSpelledComb(t, []impl.Comb{{Kind: impl.CombVar, N: n, Up: -1}}, fmt.Sprint("x", n))
	}
}
