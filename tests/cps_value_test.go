package tests

import (
	"fmt"
	"slices"
	"testing"

	"loop.example/g00201/impl"
)

func TestLambdasAreThemselves(t *testing.T) {
	for _, text := range []string{`\0`, `\\1`, `\(0 0)`, `\(\0 0)`, `\((\0 \0) (\\1 0))`, `\` + selfApplied, `\` + growingTerm, wideValue(150), deepValue(40), `\(\\1 ` + selfApplied + ")"} {
		byValue(t, text, text, 0)
		byName(t, text, text, 0)
	}
}

func TestBringByHand(t *testing.T) {
	for _, c := range []struct {
		text  string
		value string
		took  int
		head  string
		names int
	}{
		{`(\0 \0)`, `\0`, 1, `\0`, 1},
		{`(\\1 \0)`, `\\0`, 1, `\\0`, 1},
		// An application is the first part, the second one, or both.
		{`((\0 \0) \\1)`, `\\1`, 2, `\\1`, 2},
		{`(\0 (\0 \\1))`, `\\1`, 2, `\\1`, 2},
		{`((\0 \0) (\0 \\1))`, `\\1`, 3, `\\1`, 3},
		{`((\\1 \0) \\0)`, `\0`, 2, `\0`, 2},
		{`(((\\\2 \0) \\0) \\1)`, `\0`, 3, `\0`, 3},
		{`(((\\\0 \0) \\0) \\1)`, `\\1`, 3, `\\1`, 3},
		{`(\0 (\0 (\0 \(0 0))))`, `\(0 0)`, 3, `\(0 0)`, 3},
		{`((\(0 \0) \0) (\0 \\0))`, `\\0`, 4, `\\0`, 4},
		{`(((\\\((2 0) (1 0)) \\1) \\1) \\0)`, `\\0`, 6, `\\0`, 5},
		// By name what is dropped is not reduced.
		{`(\\0 (\0 \0))`, `\0`, 2, `\0`, 1},
		{`((\\1 \0) (\0 \0))`, `\0`, 3, `\0`, 2},
		{`(\\0 ((\0 \0) (\0 \0)))`, `\0`, 4, `\0`, 1},
		// By name what is used twice is reduced twice.
		{`(\(0 0) (\0 \0))`, `\0`, 3, `\0`, 4},
		{`(\((0 0) 0) (\0 \0))`, `\0`, 4, `\0`, 6},
		{`(\(0 (0 \\1)) (\0 \0))`, `\\1`, 4, `\\1`, 5},
		{`(\(\(0 0) 0) (\0 \0))`, `\0`, 4, `\0`, 5},
		// Redexes within a lambda stay; by name also those that come there as they are.
		{`(\\(\0 0) \0)`, `\(\0 0)`, 1, `\(\0 0)`, 1},
		{`(\\1 (\0 \0))`, `\\0`, 2, `\(\0 \0)`, 1},
		{`(\\(0 1) (\0 \\1))`, `\(0 \\1)`, 2, `\(0 (\0 \\1))`, 1},
		{`(\\(1 1) (\0 \0))`, `\(\0 \0)`, 2, `\((\0 \0) (\0 \0))`, 1},
		{`(\\\(2 (1 0)) (\0 \0))`, `\\(\0 (1 0))`, 2, `\\((\0 \0) (1 0))`, 1},
		// An argument that has no end.
		{`(\\0 ` + selfApplied + ")", "", 0, `\0`, 1},
		{`(\\1 ` + selfApplied + ")", "", 0, `\` + selfApplied, 1},
		{`((\\1 \\0) ` + selfApplied + ")", "", 0, `\\0`, 2},
		{`((\\0 ` + selfApplied + `) \\1)`, "", 0, `\\1`, 2},
		{`(\\0 ` + growingTerm + ")", "", 0, `\0`, 1},
		{`(\0 ` + selfApplied + ")", "", 0, "", 0},
		{"(" + selfApplied + ` \0)`, "", 0, "", 0},
		{selfApplied, "", 0, "", 0},
		{growingTerm, "", 0, "", 0},
		{`(\\` + selfApplied + ` \0)`, `\` + selfApplied, 1, `\` + selfApplied, 1},
	} {
		byValue(t, c.text, c.value, c.took)
		byName(t, c.text, c.head, c.names)
	}
}

// By value an argument is reduced once, by name as often as it is used.
func TestArgumentsThatAreUsedTwice(t *testing.T) {
	for n := range 8 {
		byValue(t, doubling(n), `\0`, 2*n)
		byName(t, doubling(n), `\0`, 1<<(n+1)-2)
	}
	for n := range 36 {
		byValue(t, identities(n, `\\1`), `\\1`, n)
		byName(t, identities(n, `\\1`), `\\1`, n)
	}
	for n := range 20 {
		text := "((" + numeral(n) + ` \0) \\1)`
		byValue(t, text, `\\1`, n+2)
		byName(t, text, `\\1`, n+2)
	}
}

// What a redex comes to may have just MaxTerm nodes, and be just MaxTermDeep.
func TestOutcomesOfLimits(t *testing.T) {
	both := func(text string, want string, steps int) {
		t.Helper()
		byValue(t, text, want, steps)
		byName(t, text, want, steps)
	}
	twice := func(of string) string { return fmt.Sprintf(`\(%s %s)`, of, of) }
	both(`(\\(1 1) `+wideValue(74)+")", twice(wideValue(74)), 1)
	both(`(\\\(2 2) `+wideValue(74)+")", "", 0)
	both(`(\\(1 1) `+wideValue(75)+")", "", 0)
	both(`(\\(1 1) `+deepValue(38)+")", twice(deepValue(38)), 1)
	both(`(\\(1 1) `+deepValue(39)+")", "", 0)
	both(`(\\(0 1) `+deepValue(38)+")", `\(0 `+deepValue(38)+")", 1)
	both(`(\\(0 1) `+deepValue(39)+")", "", 0)
	both(`(\\1 `+deepValue(39)+")", deepValue(40), 1)
	both(`(\\\2 `+deepValue(39)+")", "", 0)
	// A term on the way that is not good ends it, even where the next one would be good again.
	drop := func(nodes int) string { return `(\(\\0 \(1 1)) ` + wideValue(nodes) + ")" }
	both(drop(72), `\0`, 2)
	both(drop(73), "", 0)
	dropDeep := func(nodes int) string { return `(\(\\0 \(1 1)) ` + deepValue(nodes) + ")" }
	both(dropDeep(37), `\0`, 2)
	both(dropDeep(38), "", 0)
}

// Where only the whole term is too great, and no part of it that is reduced, it ends too.
func TestOnlyTheWholeIsTooGreat(t *testing.T) {
	// What is behind the first part is still there.
	dropping := `\\` + bushy(48, 0)
	for behind := 45; behind < 50; behind++ {
		text, want := `((\\(1 1) `+dropping+") "+wideValue(behind)+")", `\`+bushy(48, 0)
		if behind > 47 {
			want = ""
		}
		byValue(t, text, want, 3)
		byName(t, text, want, 3)
	}
	for deep := 34; deep < 38; deep++ {
		text, want := `(((\\(1 1) `+deepValue(deep)+`) \0) \0)`, deepValue(deep-2)
		if deep > 36 {
			want = ""
		}
		byValue(t, text, want, 4)
		byName(t, text, want, 4)
	}
	// What is ahead of the second part is there by value; by name that part is dropped as it is.
	for ahead := 1; ahead < 6; ahead++ {
		text, want := "("+lambdas(ahead+1, "0")+` (\\(1 1) `+wideValue(72)+"))", lambdas(ahead, "0")
		byName(t, text, want, 1)
		if ahead > 1 {
			want = ""
		}
		byValue(t, text, want, 2)
	}
	for deep := 34; deep < 38; deep++ {
		text, want := `(\\0 (\\0 (\\(1 1) `+deepValue(deep)+")))", `\0`
		byName(t, text, want, 1)
		if deep > 36 {
			want = ""
		}
		byValue(t, text, want, 3)
	}
	// Both.
	for behind := 21; behind < 26; behind++ {
		text, want := `((\\0 (\\(1 1) `+wideValue(60)+")) "+wideValue(behind)+")", wideValue(behind)
		byName(t, text, want, 2)
		if behind > 23 {
			want = ""
		}
		byValue(t, text, want, 3)
	}
}

func TestBringFuel(t *testing.T) {
	for _, text := range []string{`\0`, `(\0 \0)`, `((\\1 \0) (\0 \0))`, `(\(0 0) (\0 \0))`, selfApplied, growingTerm, `(\\0 ` + selfApplied + ")", wideValue(150), doubling(6)} {
		for _, fuel := range append(wrongInts(), -2, -1, 0, 1, 2, 3, 4, 11, 12, 125, 126, 999, 1000, 1001, 1002) {
			bringsAsModel(t, nodesIn(text), fuel)
		}
	}
}

func TestBringOfAllSmallTerms(t *testing.T) {
	told, other := 0, 0
	for nodes := 2; nodes <= 11; nodes++ {
		for _, text := range eachClosed(nodes, 0) {
			if text[0] == '\\' && nodes > 7 {
				continue
			}
			for _, fuel := range []int{0, 1, 2, 12} {
				byValue, byName := bringsAsModel(t, nodesIn(text), fuel)
				if byValue {
					told++
				}
				if byValue != byName {
					other++
				}
			}
		}
	}
	if told < 2000 || other < 50 {
		t.Errorf("%d are told by value, %d not both by value and by name", told, other)
	}
}

func TestBringAsModel(t *testing.T) {
	d := &dice{state: 2213}
	counts := map[[2]bool]int{}
	for _, l := range append(drawnPrograms(2221, 2500, 8), drawnPrograms(2237, 150, 20)...) {
		fuel := d.below(30)
		byValue, byName := bringsAsModel(t, l, fuel)
		counts[[2]bool{byValue, byName}]++
	}
	if counts[[2]bool{true, true}] < 1500 || counts[[2]bool{true, false}] < 10 || counts[[2]bool{false, true}] < 100 || counts[[2]bool{false, false}] < 100 {
		t.Errorf("by value and by name: %v", counts)
	}
}

// What is told is a lambda, which is itself; more fuel changes nothing, less tells nothing; the normal form is the same,
// where both have one.
func TestBringTellsLambdas(t *testing.T) {
	normal := 0
	for _, l := range drawnPrograms(2239, 3000, 9) {
		for at, c := range bringCalls {
			value, steps, ok := c.call(l, 300)
			if !ok {
				continue
			}
			brings(t, at, spell(l), spell(value), steps)
			brings(t, 1-at, spell(value), spell(value), 0)
			if !impl.IsValue(value) || impl.IsValue(l) != (steps == 0) || steps == 0 && !slices.Equal(value, l) {
				t.Errorf("%s: %s by %d redexes is no lambda, or it was one", spell(l), spell(value), steps)
			}
			want, _, ok := impl.NormalTerm(l, 300)
			got, _, alsoOk := impl.NormalTerm(value, 300)
			if ok && alsoOk {
				normal++
				toldTerm(t, "the normal form of "+spell(value), got, true, want, true)
			}
		}
	}
	if normal < 1500 {
		t.Errorf("only %d have a normal form", normal)
	}
}
