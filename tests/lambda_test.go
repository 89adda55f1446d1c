package tests

import (
	"fmt"
	"math"
	"slices"
	"strings"
	"testing"

	"loop.example/g00201/impl"
)

func isGoodTerm(t *testing.T, l []impl.Term, want bool) {
	t.Helper()
	if impl.GoodTerm(l) != want {
		t.Errorf("GoodTerm(%s) is %v", short(fmt.Sprint(l)), !want)
	}
	if modelGoodTerm(l) != want {
		t.Errorf("the model takes %s for %v", short(fmt.Sprint(l)), !want)
	}
}

func TestTermLimits(t *testing.T) {
	if impl.MaxTerm != 150 || impl.MaxTermDeep != 40 || impl.MaxReducts != 64 || impl.TermVar != 1 || impl.TermLam != 2 || impl.TermApp != 3 {
		t.Error("the constants are not those of the chapter")
	}
}

func TestGoodTermOfManyNodes(t *testing.T) {
	isGoodTerm(t, nil, false)
	isGoodTerm(t, []impl.Term{}, false)
	for nodes := 1; nodes <= 160; nodes++ {
		l := nodesIn(bushy(nodes, 0))
		if len(l) != nodes {
			t.Fatalf("bushy(%d) has %d nodes", nodes, len(l))
		}
		isGoodTerm(t, l, nodes <= 150)
	}
}

func TestGoodTermOfDeepNodes(t *testing.T) {
	deep := map[string]func(nodes int) string{
		"lambdas":      func(nodes int) string { return lambdas(nodes-1, "0") },
		"first parts":  func(nodes int) string { return strings.Repeat("(", nodes-1) + "0" + strings.Repeat(" 0)", nodes-1) },
		"second parts": func(nodes int) string { return strings.Repeat("(0 ", nodes-1) + "0" + strings.Repeat(")", nodes-1) },
		"both":         func(nodes int) string { return lambdas(nodes-3, `(\0 (0 0))`) },
		"redexes":      func(nodes int) string { return identities(nodes-2, `\0`) },
	}
	for what, text := range deep {
		for _, nodes := range []int{3, 39, 40, 41, 42} {
			l := nodesIn(text(nodes))
			if impl.GoodTerm(l) != (nodes <= 40) || modelGoodTerm(l) != (nodes <= 40) {
				t.Errorf("%s, %d nodes around one: %v", what, nodes, impl.GoodTerm(l))
			}
		}
	}
}

func TestGoodTermOfNumbers(t *testing.T) {
	for _, n := range append(wrongInts(), -100, -99, 0, 1, 2, 98, 99, 100, 101, 150) {
		isGoodTerm(t, []impl.Term{{Kind: impl.TermVar, N: n, Up: -1}}, n >= 0 && n <= 99)
		isGoodTerm(t, []impl.Term{{Kind: impl.TermLam, N: n, Up: -1}, {Kind: impl.TermVar}}, n == 0)
		isGoodTerm(t, []impl.Term{{Kind: impl.TermLam, Up: -1}, {Kind: impl.TermVar, N: n}}, n >= 0 && n <= 99)
		isGoodTerm(t, []impl.Term{{Kind: impl.TermApp, N: n, Up: -1}, {Kind: impl.TermVar}, {Kind: impl.TermVar}}, n == 0)
		isGoodTerm(t, []impl.Term{{Kind: impl.TermApp, Up: -1}, {Kind: impl.TermVar, N: 99}, {Kind: impl.TermVar, N: n}}, n >= 0 && n <= 99)
	}
}

func TestGoodTermOfKinds(t *testing.T) {
	for _, kind := range append(wrongInts(), -3, 0, 1, 2, 3, 4, 5) {
		isGoodTerm(t, []impl.Term{{Kind: kind, Up: -1}}, kind == impl.TermVar)
		isGoodTerm(t, []impl.Term{{Kind: kind, Up: -1}, {Kind: impl.TermVar}}, kind == impl.TermLam)
		isGoodTerm(t, []impl.Term{{Kind: kind, Up: -1}, {Kind: impl.TermVar}, {Kind: impl.TermVar}}, kind == impl.TermApp)
		isGoodTerm(t, []impl.Term{{Kind: kind, Up: -1}, {Kind: impl.TermVar}, {Kind: impl.TermVar}, {Kind: impl.TermVar}}, false)
		isGoodTerm(t, []impl.Term{{Kind: impl.TermLam, Up: -1}, {Kind: kind}}, kind == impl.TermVar)
	}
}

// Any one Up that is changed makes a term no term: its parts are too many elsewhere and too few here.
func TestGoodTermOfUps(t *testing.T) {
	for _, text := range []string{"0", `\0`, "(0 1)", `\(0 \(1 0))`, `((\0 1) (2 \\3))`, `(((0 1) 2) (3 (4 5)))`, bushy(31, 0)} {
		l := nodesIn(text)
		isGoodTerm(t, l, true)
		for at, n := range l {
			ups := wrongInts()
			for up := -2; up <= len(l)+1; up++ {
				ups = append(ups, up)
			}
			for _, up := range ups {
				changed := slices.Clone(l)
				changed[at].Up = up
				isGoodTerm(t, changed, up == n.Up)
			}
		}
		isGoodTerm(t, l[1:], false)
		isGoodTerm(t, l[:len(l)-1], false)
		isGoodTerm(t, append(slices.Clone(l), impl.Term{Kind: impl.TermVar, Up: -1}), false)
		isGoodTerm(t, append(slices.Clone(l), l...), false)
	}
}

// eachList goes through all lists of at most so many nodes with these fields, each Up being one from up on.
func eachList(nodes int, kinds []int, numbers []int, up int, try func(l []impl.Term)) {
	var longer func(l []impl.Term)
	longer = func(l []impl.Term) {
		try(l)
		if len(l) == nodes {
			return
		}
		for _, kind := range kinds {
			for _, n := range numbers {
				for up := up; up <= len(l); up++ {
					longer(append(slices.Clone(l), impl.Term{Kind: kind, N: n, Up: up}))
				}
			}
		}
	}
	longer(nil)
}

func TestGoodTermOfAllSmallLists(t *testing.T) {
	good := 0
	try := func(l []impl.Term) {
		want := modelGoodTerm(l)
		if impl.GoodTerm(l) != want {
			t.Fatalf("GoodTerm(%v) is %v", l, !want)
		}
		if want {
			good++
		}
	}
	eachList(3, []int{0, 1, 2, 3, 4}, []int{-1, 0, 1}, -2, try)
	eachList(5, []int{1, 2, 3}, []int{0}, -1, try)
	eachList(6, []int{1, 3}, []int{0}, -1, try)
	if good < 25 {
		t.Errorf("only %d are good", good)
	}
}

func isSpelled(t *testing.T, l []impl.Term, want string) {
	t.Helper()
	text, ok := impl.TermText(l)
	told(t, "TermText", text, ok, want)
	got, ok := impl.ReadTerm(want)
	toldTerm(t, fmt.Sprintf("ReadTerm(%q)", short(want)), got, ok, l, true)
}

func TestTermTextsByHand(t *testing.T) {
	v := func(n int, up int) impl.Term { return impl.Term{Kind: impl.TermVar, N: n, Up: up} }
	lam := func(up int) impl.Term { return impl.Term{Kind: impl.TermLam, Up: up} }
	app := func(up int) impl.Term { return impl.Term{Kind: impl.TermApp, Up: up} }
	isSpelled(t, []impl.Term{v(0, -1)}, "0")
	isSpelled(t, []impl.Term{v(9, -1)}, "9")
	isSpelled(t, []impl.Term{v(10, -1)}, "10")
	isSpelled(t, []impl.Term{v(99, -1)}, "99")
	isSpelled(t, []impl.Term{lam(-1), v(0, 0)}, `\0`)
	isSpelled(t, []impl.Term{lam(-1), lam(0), v(1, 1)}, `\\1`)
	isSpelled(t, []impl.Term{app(-1), v(1, 0), v(20, 0)}, "(1 20)")
	isSpelled(t, []impl.Term{app(-1), lam(0), app(1), v(0, 2), v(0, 2), lam(0), v(3, 5)}, `(\(0 0) \3)`)
	isSpelled(t, []impl.Term{lam(-1), app(0), app(1), v(1, 2), v(2, 2), app(1), v(3, 5), lam(5), v(4, 7)}, `\((1 2) (3 \4))`)
	isSpelled(t, []impl.Term{app(-1), app(0), v(0, 1), v(1, 1), v(2, 0)}, "((0 1) 2)")
	isSpelled(t, []impl.Term{app(-1), v(0, 0), app(0), v(1, 2), v(2, 2)}, "(0 (1 2))")
}

func TestTermTextsOfTheGreatest(t *testing.T) {
	long := "(" + bushy(73, 10) + " " + bushy(75, 99) + ")"
	for _, text := range []string{
		lambdas(39, "0"), lambdas(39, "99"), strings.Repeat("(", 39) + "0" + strings.Repeat(" 1)", 39), strings.Repeat("(10 ", 39) + "0" + strings.Repeat(")", 39),
		bushy(150, 0), bushy(149, 99), bushy(150, 98), long, `\` + long, identities(37, `\0`), identities(36, lambdas(3, "7")),
	} {
		isSpelled(t, nodesIn(text), text)
	}
	for _, text := range []string{
		lambdas(40, "0"), strings.Repeat("(", 40) + "0" + strings.Repeat(" 1)", 40), strings.Repeat("(1 ", 40) + "0" + strings.Repeat(")", 40),
		bushy(151, 0), bushy(152, 0), bushy(449, 0), bushy(1001, 0), `\\` + long, "(0 " + long + ")", "100", `\100`, "(0 100)", "(0 999)", `\\101`, "12345678",
	} {
		l, ok := impl.ReadTerm(text)
		noTerm(t, fmt.Sprintf("ReadTerm(%q)", short(text)), l, ok)
		told, ok := impl.TermText(nodesIn(text))
		refused(t, "TermText "+short(text), told, ok)
	}
}

func TestReadTermOfWrongTexts(t *testing.T) {
	wrong := []string{
		"", " ", "00", "01", "007", "099", "-1", "-0", "+1", "1.0", "a", "x", "λ0", "\\", `\\`, `\ 0`, `0\`, `\0\`, "/0", "(", ")", "()", "( )", "(0)", "(0 )", "( 0)",
		"(00)", "(0 00)", "(00 0)", "(0  0)", "( 0 0)", "(0 0 )", "(0 0", "0 0)", "(0 0))", "((0 0)", "(0 0 0)", "(0\t0)", "(0\n0)", "(0,0)", "(0 0]", "[0 0]", "0 ", " 0", "0\n", "0 0", "(0 0)(0 0)",
		"(0 0) ", " (0 0)", "(0 0)0", `(\0\0)`, `(0\0)`, "(0(0 0))", "((0 0)0)", "((0 0) )", "( (0 0))", `(\ 0)`, `(0 \)`, "(0 1 2)", `\(0)`, `\()`, "0x1", "1e1", "\x00", "0\x00", "\xff", "1\x80", "٣", "１",
		"9223372036854775807", "9223372036854775808", "18446744073709551616", "18446744073709551617", strings.Repeat("0", 100), strings.Repeat("9", 100),
	}
	for _, text := range wrong {
		l, ok := impl.ReadTerm(text)
		noTerm(t, fmt.Sprintf("ReadTerm(%q)", text), l, ok)
	}
	// Each good text with any one byte left out, put in or changed is read as the model reads it.
	for _, text := range []string{"0", "10", "99", `\0`, `\\12`, "(0 1)", `(\(0 0) \3)`, `\((10 2) (3 \4))`} {
		for at := range len(text) + 1 {
			for c := range 256 {
				sign := string([]byte{byte(c)})
				readTermAsModel(t, text[:at]+sign+text[at:])
				if at < len(text) {
					readTermAsModel(t, text[:at]+sign+text[at+1:])
					readTermAsModel(t, text[:at]+text[at+1:])
				}
			}
		}
	}
}

// readTermAsModel holds ReadTerm against the model, and says whether it reads a text.
func readTermAsModel(t *testing.T, text string) bool {
	t.Helper()
	want, ok := parseTerm(text)
	if ok {
		want, ok = goodOrNone(want)
	}
	got, gotOk := impl.ReadTerm(text)
	toldTerm(t, fmt.Sprintf("ReadTerm(%q)", short(text)), got, gotOk, want, ok)
	return gotOk
}

func TestReadTermOfAllSmallTexts(t *testing.T) {
	read := 0
	var try func(text string, left int)
	try = func(text string, left int) {
		if readTermAsModel(t, text) {
			read++
			back, ok := impl.TermText(nodesIn(text))
			told(t, "TermText", back, ok, text)
		}
		if left == 0 {
			return
		}
		for _, c := range []byte(`\() 01`) {
			try(text+string(c), left-1)
		}
	}
	try("", 7)
	if read < 100 {
		t.Errorf("only %d texts are read", read)
	}
}

func TestTermsComeBack(t *testing.T) {
	for _, l := range append(drawnTerms(1301, 3000, 25), drawnTerms(1303, 300, 150)...) {
		isGoodTerm(t, l, true)
		isSpelled(t, l, spell(l))
	}
}

func TestFreeInByHand(t *testing.T) {
	for text, want := range map[string][]int{
		"0": {0}, "7": {7}, "99": {99}, `\0`: nil, `\1`: {0}, `\99`: {98}, `\\1`: nil, `\\2`: {0}, "(3 1)": {1, 3}, "(1 3)": {1, 3}, "(2 2)": {2}, "(10 9)": {9, 10},
		`\(0 \(1 0))`: nil, `(2 \(3 \(4 \5)))`: {2}, `((3 \3) (\\3 3))`: {1, 2, 3}, `(\(0 0) (\0 3))`: {3}, `(9 (8 (7 (1 (2 0)))))`: {0, 1, 2, 7, 8, 9},
		lambdas(39, "38"): nil, lambdas(39, "39"): {0}, lambdas(39, "99"): {60}, `(99 \99)`: {98, 99},
	} {
		if got, ok := impl.FreeIn(nodesIn(text)); !slices.Equal(got, want) || !ok {
			t.Errorf("FreeIn(%s): %v, %v; wanted %v", short(text), got, ok, want)
		}
	}
}

func TestFreeInOfDrawnTerms(t *testing.T) {
	closed, several := 0, 0
	for _, l := range append(drawnTerms(1307, 3000, 25), drawnTerms(1319, 200, 150)...) {
		want := modelFree(l)
		got, ok := impl.FreeIn(l)
		if !slices.Equal(got, want) || !ok {
			t.Errorf("FreeIn(%s): %v, %v; wanted %v", spell(l), got, ok, want)
		}
		if len(got) == 0 {
			closed++
		}
		if len(got) > 2 {
			several++
		}
	}
	if closed < 100 || several < 100 {
		t.Errorf("%d terms have no free variables, %d several", closed, several)
	}
}

func TestTermsOfEndsOfInt(t *testing.T) {
	for _, n := range []int{math.MinInt, math.MinInt + 1, math.MaxInt - 1, math.MaxInt} {
		for _, l := range [][]impl.Term{
			{{Kind: n, N: n, Up: n}}, {{Kind: impl.TermVar, N: n, Up: -1}}, {{Kind: impl.TermVar, Up: n}}, {{Kind: n, Up: -1}}, {{Kind: impl.TermLam, Up: -1}, {Kind: impl.TermVar, Up: n}},
			{{Kind: impl.TermLam, Up: -1}, {Kind: impl.TermVar, N: n}}, {{Kind: impl.TermApp, Up: -1}, {Kind: impl.TermVar}, {Kind: impl.TermVar, Up: n}}, {{Kind: impl.TermApp, Up: n}, {Kind: impl.TermVar}, {Kind: impl.TermVar}},
		} {
			isGoodTerm(t, l, false)
		}
	}
}
