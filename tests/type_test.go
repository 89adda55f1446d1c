package tests

import (
	"fmt"
	"slices"
	"strings"
	"testing"

	"loop.example/g00201/impl"
)

func TestTypeLimits(t *testing.T) {
	if impl.MaxTypeNodes != 200 {
		t.Error("the constant is not that of the chapter")
	}
}

func TestGoodTypeOfVariables(t *testing.T) {
	for n := range 1000 {
		isGoodType(t, fmt.Sprint("t", n), true)
		isGoodType(t, fmt.Sprint("t0", n), false)
		isGoodType(t, fmt.Sprint("t", n+1000), false)
		isGoodType(t, fmt.Sprintf("(t%d>t%d)", n, 999-n), true)
		isGoodType(t, fmt.Sprintf("(t%d>t0)", n+1000), false)
		isGoodType(t, fmt.Sprintf("(t0>t%d)", n+1000), false)
	}
	for _, number := range []string{"", "00", "01", "000", "0999", "007", "1000", "01000", "9999", "10000", "-1", "-0", "+1", " 1", "1 ", "1.0", "1e2", "0x1", "1_0", "a", "t1", "2147483648", "4294967296", "4294967297", "9223372036854775807", "9223372036854775808", "18446744073709551616", "18446744073709551617", strings.Repeat("0", 100), strings.Repeat("9", 100), strings.Repeat("9", 700), "٣", "１"} {
		for _, around := range []string{"t%s", "(t%s>t0)", "(t0>t%s)", "((t0>t%s)>t0)"} {
			isGoodType(t, fmt.Sprintf(around, number), false)
		}
	}
}

func TestGoodTypeOfArrows(t *testing.T) {
	for _, s := range []string{"(t0>t0)", "(t0>t1)", "(t1>t0)", "((t0>t1)>t2)", "(t0>(t1>t2))", "((t0>t1)>(t2>t3))", "(((t999>t998)>t0)>((t10>t100)>(t1>t1)))"} {
		isGoodType(t, s, true)
		for _, around := range []string{" %s", "%s ", "\n%s", "%s\n", "%s\x00", "%s)", "(%s", "(%s)", "%s>", ">%s", "%[1]s%[1]s", "%[1]s>%[1]s", "%[1]s %[1]s", "%st", "%st0", "t0%s", "%s0", "[%s]", "(%s>)", "(>%s)", "(%[1]s>%[1]s", "(%[1]s%[1]s)", "%[1]s>%[1]s)", "(%[1]s>%[1]s>%[1]s)", "(%[1]s-%[1]s)", "(%[1]s->%[1]s)", "(%[1]s>>%[1]s)", "(%[1]s> %[1]s)", "(%[1]s >%[1]s)", "( %[1]s>%[1]s)", "(%[1]s>%[1]s )", "(%[1]s %[1]s)", "((%[1]s>%[1]s)", "(%[1]s>%[1]s))", "((%[1]s>%[1]s))", "(%[1]s<%[1]s)", "(%[1]s>%[1]s]"} {
			isGoodType(t, fmt.Sprintf(around, s), false)
		}
	}
	for _, s := range []string{"", " ", "t", "T0", "0", "1", "x0", "tt", "tt0", "t0t", "t0t1", "t 0", "(", ")", "()", "( )", ">", "(>)", "(t0)", "(t0>)", "(>t0)", "(t>t)", "(t0>t", "(t>t0)", "(t0t1)", "(t0>t1", "t0>t1", "t0>t1)", "((t0>t1)", "\x00", "\xff", "t0\x80", "ｔ0", "(t0＞t1)", strings.Repeat("(", 50), strings.Repeat("t0", 50), strings.Repeat(">", 50)} {
		isGoodType(t, s, false)
	}
}

// As arrows have two parts there is no type of just MaxTypeNodes: 199 are the most.
func TestGoodTypeOfManyNodes(t *testing.T) {
	for _, variable := range []string{"t0", "t10", "t999"} {
		for nodes := 1; nodes <= 211; nodes += 2 {
			s := wideType(nodes, variable)
			if nodesOfType(s) != nodes {
				t.Fatalf("wideType(%d) has %d nodes", nodes, nodesOfType(s))
			}
			isGoodType(t, s, nodes <= 199)
		}
		for _, nodes := range []int{231, 233, 265, 267, 399, 401, 2001} {
			isGoodType(t, wideType(nodes, variable), false)
		}
	}
	if most := len(wideType(199, "t999")); most != 100*4+99*3 {
		t.Errorf("the greatest text has %d bytes", most)
	}
}

// 59 arrows around each other and a variable are as deep as may be.
func TestGoodTypeOfDeepNodes(t *testing.T) {
	for _, arrows := range []int{1, 2, 58, 59, 60, 61, 70, 99} {
		for _, s := range []string{arrowsTo(arrows, "t0", "t1"), arrowsFrom(arrows, "t999", "t0"), arrowsTo(arrows/2, "t5", arrowsFrom(arrows-arrows/2, "t0", "t1")), arrowsFrom(arrows/2, arrowsTo(arrows-arrows/2, "t0", "t7"), "t8")} {
			if deepOfType(s) != arrows+1 {
				t.Fatalf("%d are around each other", deepOfType(s))
			}
			isGoodType(t, s, arrows <= 59)
		}
	}
	for _, arrows := range []int{57, 58, 59} {
		isGoodType(t, "("+arrowsTo(arrows, "t0", "t1")+">t2)", arrows <= 58)
		isGoodType(t, "(t2>"+arrowsFrom(arrows, "t0", "t1")+")", arrows <= 58)
		isGoodType(t, "((t2>"+arrowsFrom(arrows, "t0", "t1")+")>t3)", arrows <= 57)
	}
}

// Each good text with any one byte left out, put in or changed is good as the model says.
func TestGoodTypeOfChangedTexts(t *testing.T) {
	for _, s := range []string{"t0", "t10", "t999", "(t0>t1)", "((t1>t20)>t3)", "(t3>(t100>t0))"} {
		for at := range len(s) + 1 {
			for c := range 256 {
				sign := string([]byte{byte(c)})
				changed := []string{s[:at] + sign + s[at:]}
				if at < len(s) {
					changed = append(changed, s[:at]+sign+s[at+1:], s[:at]+s[at+1:])
				}
				for _, s := range changed {
					isGoodType(t, s, modelGoodType(s))
				}
			}
		}
	}
}

func TestGoodTypeOfAllSmallTexts(t *testing.T) {
	good := 0
	var try func(s string, left int, signs string)
	try = func(s string, left int, signs string) {
		want := modelGoodType(s)
		if impl.GoodType(s) != want {
			t.Fatalf("GoodType(%q) is %v", s, !want)
		}
		if want {
			good++
		}
		if left == 0 {
			return
		}
		for _, c := range []byte(signs) {
			try(s+string(c), left-1, signs)
		}
	}
	try("", 6, "(>)t09 ")
	try("", 7, "(>)t01")
	if good < 15 {
		t.Errorf("only %d texts are types", good)
	}
}

func hasVars(t *testing.T, s string, want ...int) {
	t.Helper()
	if got, ok := impl.VarsOf(s); !slices.Equal(got, want) || !ok {
		t.Errorf("VarsOf(%s): %v, %v; wanted %v, true", short(s), got, ok, want)
	}
}

func isPlain(t *testing.T, s string, want string) {
	t.Helper()
	got, ok := impl.PlainType(s)
	told(t, fmt.Sprintf("PlainType(%s)", short(s)), got, ok, want)
}

// varsCases are types, their variables, and their plain ones.
var varsCases = []struct {
	s     string
	vars  []int
	plain string
}{
	{"t0", []int{0}, "t0"},
	{"t7", []int{7}, "t0"},
	{"t999", []int{999}, "t0"},
	{"(t0>t0)", []int{0}, "(t0>t0)"},
	{"(t5>t5)", []int{5}, "(t0>t0)"},
	{"(t0>t1)", []int{0, 1}, "(t0>t1)"},
	{"(t1>t0)", []int{1, 0}, "(t0>t1)"},
	{"(t1>(t0>t1))", []int{1, 0}, "(t0>(t1>t0))"},
	{"(t2>(t1>t0))", []int{2, 1, 0}, "(t0>(t1>t2))"},
	{"((t1>t2)>t0)", []int{1, 2, 0}, "((t0>t1)>t2)"},
	{"((t0>t2)>(t1>t2))", []int{0, 2, 1}, "((t0>t1)>(t2>t1))"},
	{"((t999>t0)>((t0>t10)>(t999>t1)))", []int{999, 0, 10, 1}, "((t0>t1)>((t1>t2)>(t0>t3)))"},
	{"(((t1>t1)>(t10>t1))>((t100>t10)>t1))", []int{1, 10, 100}, "(((t0>t0)>(t1>t0))>((t2>t1)>t0))"},
	{"(t3>(t2>(t3>(t2>(t3>t1)))))", []int{3, 2, 1}, "(t0>(t1>(t0>(t1>(t0>t2)))))"},
}

func TestVarsAndPlainTypesByHand(t *testing.T) {
	for _, c := range varsCases {
		hasVars(t, c.s, c.vars...)
		isPlain(t, c.s, c.plain)
		isPlain(t, c.plain, c.plain)
	}
}

// 100 different variables are as many as a type can have.
func TestVarsAndPlainTypesOfManyVariables(t *testing.T) {
	for _, from := range []int{0, 1, 450, 900} {
		var up, down, plain []string
		var numbers []int
		for at := range 100 {
			up = append(up, fmt.Sprint("t", from+at))
			down = append(down, fmt.Sprint("t", from+99-at))
			plain = append(plain, fmt.Sprint("t", at))
			numbers = append(numbers, from+at)
		}
		hasVars(t, spreadTypes(up), numbers...)
		isPlain(t, spreadTypes(up), spreadTypes(plain))
		isPlain(t, spreadTypes(down), spreadTypes(plain))
		slices.Reverse(numbers)
		hasVars(t, spreadTypes(down), numbers...)
	}
	for n := range 1000 {
		hasVars(t, fmt.Sprint("t", n), n)
		isPlain(t, fmt.Sprintf("(t%d>t%d)", n, 999-n), "(t0>t1)")
	}
	hasVars(t, wideType(199, "t31"), 31)
	isPlain(t, wideType(199, "t31"), wideType(199, "t0"))
	isPlain(t, arrowsTo(59, "t9", "t8"), arrowsTo(59, "t0", "t1"))
	isPlain(t, arrowsFrom(59, "t9", "t8"), arrowsFrom(59, "t0", "t1"))
}

func TestVarsAndPlainTypesAsModel(t *testing.T) {
	for _, s := range append(drawnTypes(2003, 4000, 12), drawnTypes(2011, 600, 100)...) {
		isGoodType(t, s, true)
		hasVars(t, s, modelVars(s)...)
		isPlain(t, s, modelPlain(s))
	}
}

// A type and its plain one are instances of one another, and types that are so have one plain one.
func TestPlainTypesAreInstances(t *testing.T) {
	d := &dice{state: 2017}
	both, one := 0, 0
	for _, s := range drawnTypes(2027, 4000, 7) {
		plain, _ := impl.PlainType(s)
		isInstance(t, s, plain, true)
		isInstance(t, plain, s, true)
		other := d.typ(1+d.below(5), 1+d.below(3))
		there, _ := impl.InstanceOf(s, other)
		back, _ := impl.InstanceOf(other, s)
		otherPlain, _ := impl.PlainType(other)
		if (there && back) != (plain == otherPlain) {
			t.Errorf("%s and %s: %v, %v; plain %s and %s", s, other, there, back, plain, otherPlain)
		}
		switch {
		case there && back:
			both++
		case there || back:
			one++
		}
	}
	if both < 100 || one < 500 {
		t.Errorf("%d are instances of one another, %d one of the other", both, one)
	}
}
