package tests

import (
	"fmt"
	"slices"
	"testing"

	"loop.example/g00201/impl"
)

// makesType asks for a type; of none, for the zero answer.
func makesType(t *testing.T, b []impl.Bind, s string, want string) {
	t.Helper()
	what := fmt.Sprintf("ApplyType(%s, %s)", short(fmt.Sprint(b)), short(s))
	got, ok := impl.ApplyType(b, s)
	isTypeText(t, what, got, ok, want)
	model, _ := modelApplyType(b, s)
	isTypeText(t, what+" as the model", got, ok, model)
}

func TestApplyTypeByHand(t *testing.T) {
	arrow := []impl.Bind{{Var: 0, Type: "(t1>t2)"}}
	swap := []impl.Bind{{Var: 0, Type: "t1"}, {Var: 1, Type: "t0"}}
	row := []impl.Bind{{Var: 0, Type: "t1"}, {Var: 1, Type: "t2"}, {Var: 2, Type: "(t0>t2)"}}
	for _, c := range []struct {
		binds []impl.Bind
		s     string
		want  string
	}{
		{nil, "t0", "t0"}, {[]impl.Bind{}, "(t5>(t6>t999))", "(t5>(t6>t999))"}, {nil, wideType(199, "t3"), wideType(199, "t3")},
		{arrow, "t0", "(t1>t2)"}, {arrow, "t1", "t1"}, {arrow, "t2", "t2"}, {arrow, "t10", "t10"}, {arrow, "t100", "t100"}, {arrow, "(t3>t4)", "(t3>t4)"}, {arrow, "(t0>t0)", "((t1>t2)>(t1>t2))"}, {arrow, "(t1>(t0>t3))", "(t1>((t1>t2)>t3))"}, {arrow, "((t0>t10)>t0)", "(((t1>t2)>t10)>(t1>t2))"},
		// What is put in is not looked at again.
		{swap, "t0", "t1"}, {swap, "t1", "t0"}, {swap, "(t0>t1)", "(t1>t0)"}, {swap, "((t1>t1)>t0)", "((t0>t0)>t1)"}, {row, "(t0>(t1>t2))", "(t1>(t2>(t0>t2)))"}, {row, "(t2>(t3>t0))", "((t0>t2)>(t3>t1))"},
		{[]impl.Bind{{Var: 0, Type: "(t0>t0)"}}, "(t0>t1)", "((t0>t0)>t1)"}, {[]impl.Bind{{Var: 5, Type: "t5"}}, "(t5>t6)", "(t5>t6)"},
		{[]impl.Bind{{Var: 1, Type: "t7"}, {Var: 10, Type: "t8"}, {Var: 100, Type: "t9"}}, "(t1>(t10>(t100>t101)))", "(t7>(t8>(t9>t101)))"},
		{[]impl.Bind{{Var: 0, Type: "t999"}, {Var: 999, Type: "t0"}}, "(t0>t999)", "(t999>t0)"},
	} {
		makesType(t, c.binds, c.s, c.want)
	}
}

func TestApplyTypeOfWrongBinds(t *testing.T) {
	for _, n := range append(wrongInts(), -3, -1, 0, 1, 998, 999, 1000, 1001) {
		want := ""
		if n >= 0 && n <= 999 {
			want = "t5"
		}
		makesType(t, []impl.Bind{{Var: n, Type: "t7"}}, "t5", want)
	}
	one := func(n int) impl.Bind { return impl.Bind{Var: n, Type: fmt.Sprint("t", n)} }
	makesType(t, []impl.Bind{one(0), one(1), one(999)}, "t5", "t5")
	for _, numbers := range [][]int{{0, 0}, {7, 7}, {999, 999}, {1, 0}, {999, 0}, {0, 2, 1}, {1, 2, 2}, {2, 2, 3}, {0, 1, 2, 3, 2}, {3, 1, 2}, {-1, 0}, {-1, 5}, {0, 1000}, {998, 999, 1000}, {5, 4, 6}} {
		var b []impl.Bind
		for _, n := range numbers {
			b = append(b, impl.Bind{Var: n, Type: "t1"})
		}
		makesType(t, b, "t5", "")
	}
	for _, s := range []string{"", "t", "t01", "t1000", "(t0>t1", "(t0>t1))", " t0", "t0 ", "x0", "(t0 t1)", wideType(201, "t0"), arrowsTo(60, "t0", "t0")} {
		makesType(t, []impl.Bind{{Var: 3, Type: s}}, "t5", "")
		makesType(t, []impl.Bind{one(1), {Var: 3, Type: s}, one(4)}, "t5", "")
		makesType(t, []impl.Bind{one(1)}, s, "")
		makesType(t, nil, s, "")
	}
}

func TestApplyTypeOfManyBinds(t *testing.T) {
	for many := 195; many < 206; many++ {
		for _, step := range []int{1, 4} {
			var b []impl.Bind
			for n := range many {
				b = append(b, impl.Bind{Var: step * n, Type: fmt.Sprint("t", (step*n+1)%1000)})
			}
			want := ""
			if many <= 200 {
				want = fmt.Sprintf("(t1>(t%d>t%d))", step*(many-1)+1, step*many)
			}
			makesType(t, b, fmt.Sprintf("(t0>(t%d>t%d))", step*(many-1), step*many), want)
		}
	}
}

// Outcomes of 199 nodes and of 201, and with 60 and 61 around each other.
func TestApplyTypeToTheLimits(t *testing.T) {
	for nodes := 93; nodes < 107; nodes += 2 {
		s := wideType(nodes, "t1")
		want := ""
		if nodes <= 99 {
			want = "(" + s + ">" + s + ")"
		}
		makesType(t, []impl.Bind{{Var: 0, Type: s}}, "(t0>t0)", want)
		if nodes <= 97 {
			want = "((t2>" + s + ")>" + s + ")"
		} else {
			want = ""
		}
		makesType(t, []impl.Bind{{Var: 0, Type: s}}, "((t2>t0)>t0)", want)
	}
	makesType(t, []impl.Bind{{Var: 0, Type: wideType(199, "t0")}}, "t0", wideType(199, "t0"))
	makesType(t, []impl.Bind{{Var: 0, Type: wideType(197, "t1")}}, "(t0>t1)", "("+wideType(197, "t1")+">t1)")
	makesType(t, []impl.Bind{{Var: 0, Type: wideType(199, "t1")}}, "(t0>t1)", "")
	makesType(t, []impl.Bind{{Var: 7, Type: "(t8>t9)"}}, spreadTypes(slices.Repeat([]string{"t7"}, 50)), spreadTypes(slices.Repeat([]string{"(t8>t9)"}, 50)))
	makesType(t, []impl.Bind{{Var: 7, Type: "(t8>t9)"}}, spreadTypes(slices.Repeat([]string{"t7"}, 51)), "")
	for outer := range 60 {
		for _, inner := range []int{58 - outer, 59 - outer, 60 - outer} {
			if inner < 0 || inner > 59 {
				continue
			}
			for _, s := range []string{arrowsTo(inner, "t1", "t2"), arrowsFrom(inner, "t1", "t2")} {
				want := ""
				if outer+inner <= 59 {
					want = arrowsTo(outer, "t3", s)
				}
				makesType(t, []impl.Bind{{Var: 0, Type: s}}, arrowsTo(outer, "t3", "t0"), want)
			}
		}
	}
}

func TestApplyTypeAsModel(t *testing.T) {
	d := &dice{state: 2029}
	told, grown := 0, 0
	for range 6000 {
		b, s := d.binds(6, 1+d.below(20)), d.typ(1+d.below(30), 7)
		if !modelGoodType(s) {
			continue
		}
		want, ok := modelApplyType(b, s)
		makesType(t, b, s, want)
		if !ok {
			grown++
			continue
		}
		told++
		// What binds make of a type is an instance of it.
		isInstance(t, s, want, true)
	}
	if told < 3000 || grown < 300 {
		t.Errorf("%d are told, %d can not be", told, grown)
	}
}

// Binds that are applied one list after the other do what those with the second ones put into the first ones do.
func TestApplyTypeTwice(t *testing.T) {
	d := &dice{state: 2039}
	same := 0
	for range 3000 {
		first, second, s := d.binds(5, 4), d.binds(5, 4), d.typ(1+d.below(6), 5)
		var both []impl.Bind
		for n := range 5 {
			once, _ := impl.ApplyType(first, fmt.Sprint("t", n))
			twice, ok := impl.ApplyType(second, once)
			if !ok {
				t.Fatalf("%v and %v can not be applied to t%d", first, second, n)
			}
			both = append(both, impl.Bind{Var: n, Type: twice})
		}
		once, ok := impl.ApplyType(first, s)
		if !ok {
			continue
		}
		twice, ok := impl.ApplyType(second, once)
		got, alsoOk := impl.ApplyType(both, s)
		if got != twice || ok != alsoOk {
			t.Errorf("%v and %v applied to %s: %s, at once %s", first, second, s, twice, got)
		}
		if ok {
			same++
		}
	}
	if same < 2000 {
		t.Errorf("only %d were applied", same)
	}
}

func TestInstanceOfByHand(t *testing.T) {
	for _, s := range []string{"t0", "t5", "(t0>t0)", "(t1>(t2>t1))", wideType(199, "t9"), arrowsTo(59, "t1", "t2")} {
		isInstance(t, "t0", s, true)
		isInstance(t, "t999", s, true)
		isInstance(t, s, s, true)
	}
	for _, c := range []struct {
		general string
		special string
		want    bool
	}{
		// A variable that stands there twice.
		{"(t0>t0)", "(t1>t1)", true}, {"(t0>t0)", "(t1>t2)", false}, {"(t0>t0)", "((t1>t2)>(t1>t2))", true}, {"(t0>t0)", "((t1>t2)>(t2>t1))", false}, {"(t0>t0)", "((t1>t2)>t1)", false}, {"(t0>t0)", "(t0>(t0>t0))", false}, {"(t0>(t1>t0))", "(t5>(t5>t5))", true}, {"(t0>(t1>t0))", "(t5>(t6>t6))", false}, {"((t0>t1)>(t1>t0))", "((t2>t3)>(t3>t2))", true}, {"((t0>t1)>(t1>t0))", "((t2>t3)>(t2>t3))", false}, {"(t0>(t1>(t0>t1)))", "(t1>(t0>(t1>t1)))", false},
		// The special one has variables of the general one.
		{"(t0>t1)", "(t1>t0)", true}, {"(t0>t1)", "(t0>t0)", true}, {"(t0>t1)", "(t1>t1)", true}, {"(t0>t1)", "((t0>t1)>t0)", true}, {"(t0>(t1>t0))", "((t1>t0)>(t0>(t1>t0)))", true}, {"(t0>(t0>t1))", "(t1>(t1>t0))", true}, {"(t0>(t0>t1))", "(t1>(t0>t1))", false}, {"(t0>(t1>t2))", "(t1>(t2>t0))", true}, {"((t0>t0)>t0)", "(((t0>t0)>(t0>t0))>(t0>t0))", true}, {"((t0>t0)>t0)", "(((t0>t0)>(t0>t0))>t0)", false},
		// The special one is less.
		{"(t0>t1)", "t0", false}, {"(t0>t1)", "t7", false}, {"((t0>t1)>t2)", "(t0>t1)", false}, {"(t0>(t1>t2))", "(t0>t1)", false}, {"(t0>(t1>t2))", "((t0>t1)>t2)", false}, {"((t0>t1)>t2)", "(t0>(t1>t2))", false}, {"(t0>t0)", "t0", false}, {"((t0>t1)>t2)", "((t0>t1)>t0)", true},
		{"(t1>t10)", "(t0>t100)", true}, {"(t1>t1)", "(t1>t10)", false}, {"(t1>t1)", "(t10>t1)", false}, {"(t1>t1)", "(t10>t100)", false},
		{wideType(199, "t0"), wideType(199, "t1"), true}, {wideType(199, "t0"), wideType(197, "t0"), false}, {wideType(197, "t0"), wideType(199, "t0"), false}, {arrowsTo(59, "t0", "t1"), arrowsTo(58, "t0", "t1"), false}, {arrowsTo(58, "t0", "t1"), arrowsTo(59, "t0", "t1"), true}, {arrowsTo(58, "t0", "t0"), arrowsTo(59, "t0", "t0"), false}, {arrowsFrom(58, "t0", "t1"), arrowsFrom(59, "t0", "t1"), true},
	} {
		isInstance(t, c.general, c.special, c.want)
	}
}

func TestInstanceOfNoTypes(t *testing.T) {
	for _, s := range []string{"", "t", "t00", "t1000", "(t0>t1", "(t0>t1)t", "(t0)", "t0 ", "()", wideType(201, "t0"), arrowsTo(60, "t0", "t0"), arrowsFrom(60, "t0", "t0")} {
		for _, other := range []string{"t0", "(t0>t1)", s} {
			is, ok := impl.InstanceOf(s, other)
			isBack, okBack := impl.InstanceOf(other, s)
			if is || ok || isBack || okBack {
				t.Errorf("InstanceOf of %s and %s: %v, %v and %v, %v", short(s), other, is, ok, isBack, okBack)
			}
		}
	}
}

// Of all small types each is an instance of another one if some binds of small types make it so.
func TestInstanceOfAllSmallTypes(t *testing.T) {
	parts := []string{"t0", "t1", "(t0>t0)", "(t0>t1)", "(t1>t0)", "(t1>t1)"}
	small := slices.Clone(parts)
	for _, from := range parts {
		for _, to := range parts {
			if nodes := nodesOfType(from) + nodesOfType(to); nodes > 2 {
				small = append(small, "("+from+">"+to+")")
			}
		}
	}
	for _, general := range small {
		made := map[string]bool{}
		for _, first := range small {
			for _, second := range small {
				s, ok := impl.ApplyType([]impl.Bind{{Var: 0, Type: first}, {Var: 1, Type: second}}, general)
				if !ok {
					t.Fatalf("%s is not made of %s", general, first)
				}
				made[s] = true
				isInstance(t, general, s, true)
			}
		}
		for _, special := range small {
			isInstance(t, general, special, made[special])
		}
	}
}

func TestInstanceOfAsModel(t *testing.T) {
	d := &dice{state: 2053}
	instances, others := 0, 0
	for range 20000 {
		general, special := d.typ(1+d.below(5), 1+d.below(4)), d.typ(1+d.below(8), 1+d.below(3))
		want := modelInstance(general, special)
		isInstance(t, general, special, want)
		if want {
			instances++
		} else {
			others++
		}
	}
	if instances < 3000 || others < 3000 {
		t.Errorf("%d are instances, %d are not", instances, others)
	}
}

// An instance of an instance is one, too.
func TestInstancesOfInstances(t *testing.T) {
	d := &dice{state: 2063}
	for _, s := range drawnTypes(2069, 2000, 5) {
		first, ok := impl.ApplyType(d.binds(6, 4), s)
		second, alsoOk := impl.ApplyType(d.binds(6, 4), first)
		if ok && alsoOk {
			isInstance(t, s, first, true)
			isInstance(t, first, second, true)
			isInstance(t, s, second, true)
		}
	}
}
