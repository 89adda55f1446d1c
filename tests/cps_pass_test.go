package tests

import (
	"fmt"
	"slices"
	"testing"

	"loop.example/g00201/impl"
)

// passCases are terms and what they come to.
var passCases = [][2]string{
	// A variable within a lambda, within others; the new lambdas around it count too.
	{`\0`, `\(0 \\(0 1))`},
	{`\\0`, `\(0 \\(0 \\(0 1)))`},
	{`\\1`, `\(0 \\(0 \\(0 3)))`},
	{`\\\0`, `\(0 \\(0 \\(0 \\(0 1))))`},
	{`\\\1`, `\(0 \\(0 \\(0 \\(0 3))))`},
	{`\\\2`, `\(0 \\(0 \\(0 \\(0 5))))`},
	// Applications of variables, of lambdas, of both.
	{`\(0 0)`, `\(0 \\(\(0 2) \(\(0 3) \((1 0) 2))))`},
	{`\\(1 0)`, `\(0 \\(0 \\(\(0 4) \(\(0 3) \((1 0) 2)))))`},
	{`\\(0 1)`, `\(0 \\(0 \\(\(0 2) \(\(0 5) \((1 0) 2)))))`},
	{`(\0 \0)`, `\(\(0 \\(0 1)) \(\(0 \\(0 1)) \((1 0) 2)))`},
	{`(\\1 \0)`, `\(\(0 \\(0 \\(0 3))) \(\(0 \\(0 1)) \((1 0) 2)))`},
	{`(\0 \\1)`, `\(\(0 \\(0 1)) \(\(0 \\(0 \\(0 3))) \((1 0) 2)))`},
	{`\(0 \0)`, `\(0 \\(\(0 2) \(\(0 \\(0 1)) \((1 0) 2))))`},
	{`\(0 \1)`, `\(0 \\(\(0 2) \(\(0 \\(0 5)) \((1 0) 2))))`},
	{`\(\0 0)`, `\(0 \\(\(0 \\(0 1)) \(\(0 3) \((1 0) 2))))`},
	{`\(\1 0)`, `\(0 \\(\(0 \\(0 4)) \(\(0 3) \((1 0) 2))))`},
	// Applications within applications, on each side and on both.
	{`\((0 0) 0)`, `\(0 \\(\(\(0 3) \(\(0 4) \((1 0) 2))) \(\(0 3) \((1 0) 2))))`},
	{`\(0 (0 0))`, `\(0 \\(\(0 2) \(\(\(0 4) \(\(0 5) \((1 0) 2))) \((1 0) 2))))`},
	{`((\0 \0) \0)`, `\(\(\(0 \\(0 1)) \(\(0 \\(0 1)) \((1 0) 2))) \(\(0 \\(0 1)) \((1 0) 2)))`},
	{`(\0 (\0 \0))`, `\(\(0 \\(0 1)) \(\(\(0 \\(0 1)) \(\(0 \\(0 1)) \((1 0) 2))) \((1 0) 2)))`},
	{`\((0 0) (0 0))`, `\(0 \\(\(\(0 3) \(\(0 4) \((1 0) 2))) \(\(\(0 4) \(\(0 5) \((1 0) 2))) \((1 0) 2))))`},
}

func TestPassByHand(t *testing.T) {
	for _, c := range passCases {
		passes(t, c[0], c[1])
		// A lambda's value is what stands in its outcome behind the variable.
		value := ""
		if c[0][0] == '\\' {
			value = c[1][len(`\(0 `) : len(c[1])-1]
		}
		passesValue(t, c[0], value)
	}
}

func TestPassValueOfOtherTerms(t *testing.T) {
	for _, text := range []string{`(\0 \0)`, `((\0 \0) \\1)`, `(\\1 \0)`, selfApplied, identities(5, `\0`)} {
		passesValue(t, text, "")
		if got, ok := impl.PassTerm(nodesIn(text)); !ok || !impl.IsValue(got) {
			t.Errorf("PassTerm(%s): %s, %v", text, short(fmt.Sprint(got)), ok)
		}
	}
}

// passNodes counts what PassTerm tells: four nodes for a variable, four more for a lambda, ten for an application.
func passNodes(l []impl.Term) int {
	nodes := 0
	for _, n := range l {
		nodes += []int{0, 4, 4, 10}[n.Kind]
	}
	return nodes
}

// passDeep counts how many nodes are around each other in what PassTerm tells.
func passDeep(l []impl.Term) int {
	most := 0
	for at, n := range l {
		deep := []int{0, 3, 3, 8}[n.Kind]
		for up := n.Up; up >= 0; at, up = up, l[up].Up {
			switch {
			case l[up].Kind == impl.TermLam:
				deep += 3
			case at == up+1:
				deep += 2
			default:
				deep += 4
			}
		}
		most = max(most, deep)
	}
	return most
}

// passesToLimit asks PassTerm and PassValue of a lambda around a text for what they come to, or for the zero answer.
func passesToLimit(t *testing.T, text string, nodes int, deep int) {
	t.Helper()
	l := nodesIn(text)
	if passNodes(l) != nodes || passDeep(l) != deep || !isProgram(l) {
		t.Fatalf("%s comes to %d nodes, %d deep, not %d, %d", short(text), passNodes(l), passDeep(l), nodes, deep)
	}
	got, ok := impl.PassTerm(l)
	if ok != (nodes <= 150 && deep <= 40) || ok && (len(got) != nodes || deepOf(got) != deep) || !ok && len(got) > 0 {
		t.Errorf("PassTerm(%s): %d nodes, %d deep, %v", short(text), len(got), deepOf(got), ok)
	}
	want, wantOk := modelPass(l)
	toldTerm(t, "PassTerm "+text, got, ok, want, wantOk)
	// A lambda that does not use its variable, around it.
	got, ok = impl.PassValue(nodesIn(`\` + text))
	if ok != (nodes <= 149 && deep <= 39) || ok && (len(got) != nodes+1 || deepOf(got) != deep+1) || !ok && len(got) > 0 {
		t.Errorf("PassValue of a lambda around %s: %d nodes, %d deep, %v", short(text), len(got), deepOf(got), ok)
	}
	want, wantOk = modelPassValue(nodesIn(`\` + text))
	toldTerm(t, `PassValue \`+text, got, ok, want, wantOk)
}

func TestPassToLimits(t *testing.T) {
	for _, c := range []struct {
		text  string
		nodes int
	}{{lambdas(4, bushy(19, 0)), 146}, {lambdas(1, bushy(21, 0)), 148}, {lambdas(5, bushy(19, 0)), 150}, {lambdas(9, bushy(17, 0)), 152}, {lambdas(2, bushy(21, 1)), 152}} {
		passesToLimit(t, c.text, c.nodes, passDeep(nodesIn(c.text)))
		if deep := passDeep(nodesIn(c.text)); deep > 38 && c.nodes <= 150 {
			t.Errorf("%s: %d deep", c.text, deep)
		}
	}
	for _, c := range []struct {
		text string
		deep int
	}{
		{lambdas(10, "(0 0)"), 38}, {lambdas(12, "0"), 39}, {lambdas(10, "((0 0) 0)"), 40}, {lambdas(11, "(0 0)"), 41}, {lambdas(13, "0"), 42},
		{`(\0 ` + lambdas(11, "0") + ")", 40}, {`(\0 ` + lambdas(9, "(0 0)") + ")", 39}, {`(\0 ` + lambdas(9, "((0 0) 0)") + ")", 41}, {"(" + lambdas(12, "0") + ` \0)`, 41}, {"(" + lambdas(10, "(0 0)") + ` \0)`, 40}, {"(" + lambdas(9, "(0 (0 0))") + ` \0)`, 41}, {"(" + lambdas(9, "((0 0) 0)") + ` \0)`, 39},
	} {
		passesToLimit(t, c.text, passNodes(nodesIn(c.text)), c.deep)
		if nodes := passNodes(nodesIn(c.text)); nodes > 149 {
			t.Errorf("%s: %d nodes", c.text, nodes)
		}
	}
}

// passesAsModel holds the functions of one term against the models, and says whether PassTerm tells something.
func passesAsModel(t *testing.T, l []impl.Term) bool {
	t.Helper()
	what := short(fmt.Sprint(l))
	if want := isProgram(l) && l[0].Kind == impl.TermLam; impl.IsValue(l) != want {
		t.Errorf("IsValue(%s) is %v", what, !want)
	}
	want, wantOk := modelPassValue(l)
	got, ok := impl.PassValue(l)
	toldTerm(t, "PassValue "+what, got, ok, want, wantOk)
	want, wantOk = modelPass(l)
	got, ok = impl.PassTerm(l)
	toldTerm(t, "PassTerm "+what, got, ok, want, wantOk)
	return ok
}

func TestPassOfAllSmallTerms(t *testing.T) {
	told := 0
	for nodes := 2; nodes <= 9; nodes++ {
		for _, text := range eachClosed(nodes, 0) {
			if passesAsModel(t, nodesIn(text)) {
				told++
			}
		}
	}
	if told < 2000 {
		t.Errorf("only %d are told", told)
	}
}

func TestPassAsModel(t *testing.T) {
	told, none := 0, 0
	all := append(drawnPrograms(2243, 4000, 4), drawnPrograms(2251, 500, 20)...)
	for _, l := range append(all, closed(drawnTerms(2267, 4000, 25))...) {
		if ok := passesAsModel(t, l); ok != (passNodes(l) <= 150 && passDeep(l) <= 40) {
			t.Errorf("PassTerm(%s): %v, but it has %d nodes, %d deep", spell(l), ok, passNodes(l), passDeep(l))
		} else if ok {
			told++
		} else {
			none++
		}
	}
	if told < 3000 || none < 1000 {
		t.Errorf("%d are told, %d are not", told, none)
	}
}

// A variable that is replaced by a value's value, in what comes to be, gives what the replaced term comes to.
func TestPassAndSubst(t *testing.T) {
	told := 0
	for _, body := range drawnTerms(2269, 3000, 8) {
		for _, text := range []string{`\0`, `\\1`, `\(0 0)`, `\\(0 (1 0))`} {
			lambda := nodesIn(`\` + spell(body))
			if !isProgram(lambda) {
				continue
			}
			// The lambda's value is a lambda of what its part comes to.
			value, ok := impl.PassValue(lambda)
			put, putOk := impl.PassValue(nodesIn(text))
			whole, _ := impl.ApplyTerm(lambda, nodesIn(text))
			after, afterOk := impl.ReduceAt(whole, 0)
			want, wantOk := impl.PassTerm(after)
			call, _ := impl.ApplyTerm(value, put)
			got, gotOk := impl.ReduceAt(call, 0)
			if ok && putOk && afterOk && wantOk && gotOk {
				told++
				toldTerm(t, "what "+spell(whole)+" is reduced to, passed", got, true, want, true)
			}
		}
	}
	if told < 1000 {
		t.Errorf("only %d are told", told)
	}
}

func TestIsValue(t *testing.T) {
	for text, want := range map[string]bool{
		`\0`: true, `\\1`: true, `\(\0 0)`: true, `\` + selfApplied: true, wideValue(150): true, deepValue(40): true,
		`(\0 \0)`: false, selfApplied: false, identities(36, `\0`): false, "0": false, "99": false, `\1`: false, `\\2`: false, `\(0 1)`: false, `\99`: false, "(0 1)": false, `(\0 1)`: false, `(\0 \1)`: false,
		wideValue(151): false, deepValue(41): false, `\100`: false,
	} {
		if impl.IsValue(nodesIn(text)) != want {
			t.Errorf("IsValue(%s) is %v", short(text), !want)
		}
	}
}

func isApplied(t *testing.T, a string, b string, isGood bool) {
	t.Helper()
	want := ""
	if isGood {
		want = "(" + a + " " + b + ")"
	}
	got, ok := impl.ApplyTerm(nodesIn(a), nodesIn(b))
	isTermOrNone(t, fmt.Sprintf("ApplyTerm(%s, %s)", short(a), short(b)), got, ok, want)
}

func TestApplyTerm(t *testing.T) {
	isApplied(t, `\0`, `\0`, true)
	isApplied(t, `\0`, `\\1`, true)
	isApplied(t, `\\1`, `\0`, true)
	isApplied(t, `(\0 \0)`, `\\1`, true)
	isApplied(t, `\\1`, `(\0 \0)`, true)
	isApplied(t, selfApplied, growingTerm, true)
	for nodes := 2; nodes < 148; nodes += 5 {
		isApplied(t, wideValue(nodes), wideValue(149-nodes), true)
		isApplied(t, wideValue(nodes), wideValue(150-nodes), false)
	}
	isApplied(t, wideValue(147), `\0`, true)
	isApplied(t, wideValue(148), `\0`, false)
	isApplied(t, `\0`, wideValue(147), true)
	isApplied(t, `\0`, wideValue(148), false)
	isApplied(t, wideValue(150), wideValue(150), false)
	isApplied(t, `\0`, deepValue(39), true)
	isApplied(t, deepValue(39), `\0`, true)
	isApplied(t, deepValue(39), deepValue(39), true)
	isApplied(t, `\0`, deepValue(40), false)
	isApplied(t, deepValue(40), `\0`, false)
	for _, wrong := range []string{"0", "99", `\1`, `(\0 0)`, `\(0 1)`, `\\2`, wideValue(151), deepValue(41), `\100`} {
		isApplied(t, wrong, `\0`, false)
		isApplied(t, `\0`, wrong, false)
		isApplied(t, wrong, wrong, false)
	}
}

// The same list may be both arguments.
func TestApplyTermOfItself(t *testing.T) {
	for _, text := range []string{`\0`, `\(0 0)`, `(\0 \0)`, wideValue(74), deepValue(39)} {
		l := nodesIn(text)
		before := slices.Clone(l)
		got, ok := impl.ApplyTerm(l, l)
		isTerm(t, "ApplyTerm of "+short(text)+" to itself", got, ok, "("+text+" "+text+")")
		fill(got, impl.Term{Kind: 5, N: 5, Up: 5})
		if !slices.Equal(l, before) {
			t.Errorf("ApplyTerm of %s to itself shares memory with it", short(text))
		}
	}
	for _, text := range []string{wideValue(75), deepValue(40), "0", `\1`} {
		l := nodesIn(text)
		got, ok := impl.ApplyTerm(l, l)
		noTerm(t, "ApplyTerm of "+short(text)+" to itself", got, ok)
	}
}

func TestApplyTermAsModel(t *testing.T) {
	told, none := 0, 0
	all := append(drawnPrograms(2273, 200, 8), drawnTerms(2281, 80, 20)...)
	for at, a := range all {
		for _, b := range all[:at+1] {
			want, wantOk := modelApplyTerm(a, b)
			got, ok := impl.ApplyTerm(a, b)
			toldTerm(t, "ApplyTerm "+spell(a)+" "+spell(b), got, ok, want, wantOk)
			if ok {
				told++
			} else {
				none++
			}
		}
	}
	if told < 10000 || none < 2000 {
		t.Errorf("%d are told, %d are not", told, none)
	}
}
