package tests

import (
	"fmt"
	"slices"
	"strings"
	"testing"

	"loop.example/g00201/impl"
)

// unifyCases are two types and their most general binds; none of them, where that is "no".
var unifyCases = [][3]string{
	// The same types.
	{"t0", "t0", ""}, {"t999", "t999", ""}, {"(t0>t1)", "(t0>t1)", ""}, {"((t3>t4)>(t3>t3))", "((t3>t4)>(t3>t3))", ""},
	// Two variables: the first one is bound.
	{"t0", "t1", "0:t1"}, {"t1", "t0", "1:t0"}, {"t7", "t3", "7:t3"}, {"t999", "t0", "999:t0"}, {"(t0>t1)", "(t1>t0)", "0:t1"}, {"(t1>t0)", "(t0>t1)", "1:t0"}, {"(t0>t1)", "(t2>t3)", "0:t2 1:t3"}, {"(t0>t0)", "(t1>t2)", "0:t2 1:t2"}, {"(t1>t2)", "(t0>t0)", "1:t0 2:t0"}, {"(t5>t4)", "(t4>t4)", "5:t4"}, {"(t4>t4)", "(t5>t4)", "4:t5"},
	// A variable and an arrow, on each side.
	{"t0", "(t1>t2)", "0:(t1>t2)"}, {"(t1>t2)", "t0", "0:(t1>t2)"}, {"(t0>(t3>t4))", "((t1>t2)>t5)", "0:(t1>t2) 5:(t3>t4)"}, {"((t1>t2)>t5)", "(t0>(t3>t4))", "0:(t1>t2) 5:(t3>t4)"}, {"(t0>(t1>t0))", "((t2>t2)>t3)", "0:(t2>t2) 3:(t1>(t2>t2))"}, {"(t0>t0)", "((t1>t2)>t3)", "0:(t1>t2) 3:(t1>t2)"}, {"(t0>t0)", "(t3>(t1>t2))", "0:(t1>t2) 3:(t1>t2)"},
	// A variable that is in the other one.
	{"t0", "(t0>t1)", "no"}, {"t0", "(t1>t0)", "no"}, {"t0", "(t0>t0)", "no"}, {"(t0>t1)", "t0", "no"}, {"(t1>t0)", "t0", "no"}, {"t3", "(t1>((t2>t3)>t1))", "no"}, {"(t1>((t2>t3)>t1))", "t3", "no"}, {"(t0>t1)", "(t1>(t0>t0))", "no"}, {"(t1>(t0>t0))", "(t0>t1)", "no"}, {"(t0>t1)", "((t1>t2)>(t0>t2))", "no"}, {"(t0>(t1>t2))", "((t1>t1)>((t2>t2)>(t0>t0)))", "no"}, {"(t0>t0)", "(t1>(t1>t1))", "no"}, {"((t0>t1)>t0)", "(t2>(t2>t2))", "no"}, {"(t0>(t0>t1))", "((t1>t2)>t2)", "no"},
	// A number that is the front of another one is another variable.
	{"t1", "(t10>t100)", "1:(t10>t100)"}, {"(t10>t100)", "t1", "1:(t10>t100)"}, {"(t1>t10)", "(t11>t1)", "1:t11 10:t11"},
	// Binds so far have later ones applied.
	{"(t0>t1)", "((t1>t1)>(t2>t2))", "0:((t2>t2)>(t2>t2)) 1:(t2>t2)"}, {"(t0>(t1>t2))", "((t1>t1)>((t2>t2)>t3))", "0:((t3>t3)>(t3>t3)) 1:(t3>t3) 2:t3"}, {"(t0>(t1>t2))", "(t1>(t2>t3))", "0:t3 1:t3 2:t3"}, {"(t0>(t2>t1))", "(t1>(t3>t2))", "0:t3 1:t3 2:t3"}, {"(t9>(t5>t1))", "((t5>t1)>(t1>(t8>t8)))", "1:(t8>t8) 5:(t8>t8) 9:((t8>t8)>(t8>t8))"},
	// The pairs of parts come ahead of all others, the first parts first.
	{"((t0>t1)>t2)", "((t1>t2)>t0)", "0:t2 1:t2"}, {"(t2>(t0>t1))", "(t0>(t1>t2))", "0:t1 2:t1"}, {"((t0>t1)>(t2>t3))", "((t3>t2)>(t1>t0))", "0:t3 1:t2"}, {"(((t0>t1)>t2)>t3)", "(((t1>t2)>t3)>t0)", "0:t3 1:t3 2:t3"}, {"(t0>((t1>t2)>t3))", "(t3>((t0>t1)>t2))", "0:t3 1:t3 2:t3"}, {"((t0>t1)>(t1>t2))", "((t2>t2)>(t0>t0))", "0:t2 1:t2"},
	// Found to be the same only by what is bound.
	{"(t0>(t0>t0))", "(t1>(t1>t1))", "0:t1"}, {"((t0>t1)>(t0>t1))", "((t2>t2)>(t3>t3))", "0:t3 1:t3 2:t3"}, {"(t0>(t1>(t0>t1)))", "((t2>t2)>((t2>t2)>(t1>t0)))", "0:(t2>t2) 1:(t2>t2)"},
}

func TestUnifyTypesByHand(t *testing.T) {
	for _, c := range unifyCases {
		if c[2] == "no" {
			unifiesNot(t, c[0], c[1])
		} else {
			unifies(t, c[0], c[1], c[2])
		}
	}
}

// What comes up on the way is no type by its nodes, though the answer would be, and the other way round.
func TestUnifyTypesOfManyNodes(t *testing.T) {
	told := func(good bool, a string, b string, binds string) {
		t.Helper()
		if good {
			unifies(t, a, b, binds)
		} else {
			unifiesNot(t, a, b)
		}
	}
	for nodes := 41; nodes < 111; nodes += 2 {
		s := wideType(nodes, "t9")
		twice := "(" + s + ">" + s + ")"
		// Twice the same: nothing is bound, yet it comes up.
		told(nodes <= 99, "(t0>(t0>t0))", "("+s+">(t0>t0))", "0:"+s)
		told(nodes <= 99, "("+s+">(t0>t0))", "(t0>(t0>t0))", "0:"+s)
		told(nodes <= 97, "(t0>((t0>t0)>t8))", "("+s+">((t0>t0)>t8))", "0:"+s)
		// Only the parts of it are bound.
		told(nodes <= 99, "(t0>(t0>t0))", "("+s+">(t1>t2))", "0:"+s+" 1:"+s+" 2:"+s)
		told(nodes <= 99, "("+s+">(t1>t2))", "(t0>(t0>t0))", "0:"+s+" 1:"+s+" 2:"+s)
		// It is bound itself.
		told(nodes <= 99, "(t0>(t0>t0))", "("+s+">t1)", "0:"+s+" 1:"+twice)
		told(nodes <= 99, "(t0>t1)", "("+s+">(t0>t0))", "0:"+s+" 1:"+twice)
		// All that comes up are types, but what is bound already becomes none.
		told(nodes <= 99, "(t0>t1)", "((t1>t1)>"+s+")", "0:"+twice+" 1:"+s)
		told(nodes <= 99, "((t1>t1)>t1)", "(t0>"+s+")", "0:"+twice+" 1:"+s)
		told(nodes <= 49, "(t0>(t1>t2))", "((t1>t1)>((t2>t2)>"+s+"))", "0:("+twice+">"+twice+") 1:"+twice+" 2:"+s)
		told(nodes <= 99, "(t0>(t8>t1))", "((t1>t1)>(t8>"+s+"))", "0:"+twice+" 1:"+s)
		// Each alone is a type, and none is put into another one.
		told(true, "(t0>t1)", "("+s+">"+wideType(89, "t9")+")", "0:"+s+" 1:"+wideType(89, "t9"))
	}
	greatest := wideType(199, "t9")
	unifies(t, "t0", greatest, "0:"+greatest)
	unifies(t, greatest, "t0", "0:"+greatest)
	unifies(t, greatest, greatest, "")
	unifies(t, greatest, wideType(199, "t8"), "9:t8")
	unifies(t, "(t0>t1)", "("+wideType(197, "t9")+">t2)", "0:"+wideType(197, "t9")+" 1:t2")
	unifiesNot(t, greatest, wideType(197, "t9"))
	unifiesNot(t, "t0", wideType(201, "t9"))
	unifiesNot(t, wideType(201, "t9"), "t0")
}

// The same by how many are around each other.
func TestUnifyTypesOfDeepNodes(t *testing.T) {
	for outer := range 58 {
		for _, inner := range []int{58 - outer, 59 - outer, 60 - outer} {
			if inner > 58 {
				continue
			}
			first, second := arrowsTo(outer, "t8", "t1"), arrowsFrom(inner, "t9", "t8")
			a, b := "(t0>t1)", "("+first+">"+second+")"
			if outer+inner <= 59 {
				unifies(t, a, b, "0:"+arrowsTo(outer, "t8", second)+" 1:"+second)
			} else {
				unifiesNot(t, a, b)
			}
		}
	}
	for arrows := 52; arrows < 59; arrows++ {
		s := arrowsTo(arrows, "t9", "t9")
		for around := 1; around < 5; around++ {
			same := arrowsFrom(around, "t0", "t8")
			if arrows+around <= 59 {
				unifies(t, "(t0>"+same+")", "("+s+">"+same+")", "0:"+s)
			} else {
				unifiesNot(t, "(t0>"+same+")", "("+s+">"+same+")")
			}
		}
	}
	deepest := arrowsTo(59, "t9", "t8")
	unifies(t, "t0", deepest, "0:"+deepest)
	unifies(t, deepest, "t0", "0:"+deepest)
	unifiesNot(t, "t0", arrowsTo(60, "t9", "t8"))
	unifiesNot(t, arrowsFrom(60, "t9", "t8"), "t0")
}

// A hundred variables on each side, and binds that are put in again and again.
func TestUnifyTypesOfManyVariables(t *testing.T) {
	var first, second, chain []string
	var want, chained []string
	for n := range 100 {
		first, second = append(first, fmt.Sprint("t", n)), append(second, fmt.Sprint("t", 999-n))
		want = append(want, fmt.Sprintf("%d:t%d", n, 999-n))
		chain = append(chain, fmt.Sprint("t", n+1))
		chained = append(chained, fmt.Sprintf("%d:t100", n))
	}
	unifies(t, spreadTypes(first), spreadTypes(second), strings.Join(want, " "))
	unifies(t, spreadTypes(first), spreadTypes(chain), strings.Join(chained, " "))
	// Each is twice the one behind it: six of them make 127 nodes, seven make 255.
	for many := 2; many < 12; many++ {
		var twice, want []string
		for n := range many {
			twice = append(twice, fmt.Sprintf("(t%d>t%[1]d)", n+1))
			want = append(want, fmt.Sprintf("%d:%s", n, wideType(2<<(many-n)-1, fmt.Sprint("t", many))))
		}
		if a, b := spreadTypes(first[:many]), spreadTypes(twice); many <= 6 {
			unifies(t, a, b, strings.Join(want, " "))
		} else {
			unifiesNot(t, a, b)
		}
	}
}

// smallTypes are all types of up to so many variables, of those below a number.
func smallTypes(leaves int, variables int) []string {
	by := make([][]string, leaves+1)
	for n := range variables {
		by[1] = append(by[1], fmt.Sprint("t", n))
	}
	all := slices.Clone(by[1])
	for many := 2; many <= leaves; many++ {
		for first := 1; first < many; first++ {
			for _, from := range by[first] {
				for _, to := range by[many-first] {
					by[many] = append(by[many], "("+from+">"+to+")")
				}
			}
		}
		all = append(all, by[many]...)
	}
	return all
}

func TestUnifyTypesOfAllSmallOnes(t *testing.T) {
	told, none := 0, 0
	for _, all := range [][]string{smallTypes(3, 3), smallTypes(4, 2)} {
		for _, a := range all {
			for _, b := range all {
				if unifiesAsModel(t, a, b) {
					told++
				} else {
					none++
				}
			}
		}
	}
	if told < 3000 || none < 3000 {
		t.Errorf("%d have binds, %d have none", told, none)
	}
}

// cellOf gives the graph of a text.
func cellOf(s string, variables map[string]*typeCell) *typeCell {
	if s[0] == '(' {
		from, to := typeParts(s)
		return &typeCell{from: cellOf(from, variables), to: cellOf(to, variables)}
	}
	if variables[s] == nil {
		variables[s] = &typeCell{}
	}
	return variables[s]
}

// isUnified asks of binds all that the chapter promises of them.
func isUnified(t *testing.T, a string, b string, binds []impl.Bind) {
	t.Helper()
	first, ok := impl.ApplyType(binds, a)
	second, alsoOk := impl.ApplyType(binds, b)
	if first != second || ok != alsoOk {
		t.Errorf("%s and %s are %s and %s by %v", a, b, first, second, binds)
	}
	both := append(modelVars(a), modelVars(b)...)
	for at, one := range binds {
		if at > 0 && binds[at-1].Var >= one.Var || !slices.Contains(both, one.Var) || !modelGoodType(one.Type) {
			t.Errorf("%s and %s: %v", a, b, binds)
		}
		for _, n := range modelVars(one.Type) {
			isBound := slices.ContainsFunc(binds, func(other impl.Bind) bool { return other.Var == n })
			if isBound || !slices.Contains(both, n) {
				t.Errorf("%s and %s: t%d is in %v", a, b, n, binds)
			}
		}
	}
}

func TestUnifyTypesAsModel(t *testing.T) {
	d := &dice{state: 2081}
	told, none := 0, 0
	for round := range 12000 {
		leaves := 2 + d.below(6)
		if round%10 == 0 {
			leaves = 60
		}
		a, b := d.typ(1+d.below(leaves), 2+d.below(7)), d.typ(1+d.below(leaves), 2+d.below(7))
		if !modelGoodType(a) || !modelGoodType(b) {
			continue
		}
		ok := unifiesAsModel(t, a, b)
		if !ok {
			none++
		} else {
			told++
			binds, _ := impl.UnifyTypes(a, b)
			isUnified(t, a, b, binds)
		}
		// There are none at all if the graph of both has a type in itself.
		variables := map[string]*typeCell{}
		cell := cellOf(a, variables)
		cell.join(cellOf(b, variables))
		if _, isTree := cell.count(); leaves < 8 && isTree != ok {
			t.Errorf("UnifyTypes(%s, %s): %v, the graph says %v", a, b, ok, isTree)
		}
	}
	if told < 3000 || none < 3000 {
		t.Errorf("%d have binds, %d have none", told, none)
	}
}

// hidden gives a type with variables in the place of some parts that they are bound to.
func (d *dice) hidden(s string, binds []impl.Bind) string {
	for _, one := range binds {
		if one.Type == s && d.below(2) == 0 {
			return fmt.Sprint("t", one.Var)
		}
	}
	if s[0] != '(' {
		return s
	}
	from, to := typeParts(s)
	return "(" + d.hidden(from, binds) + ">" + d.hidden(to, binds) + ")"
}

// Whatever binds make both the same, there are most general ones, and what the others make of all variables is an
// instance of what these make of them.
func TestUnifyTypesIsMostGeneral(t *testing.T) {
	d := &dice{state: 2083}
	row := "(t0>(t1>(t2>(t3>(t4>(t5>t6))))))"
	bound := 0
	for range 6000 {
		var binds []impl.Bind
		for n := range 5 {
			s := d.typ(1+d.below(3), 2)
			binds = append(binds, impl.Bind{Var: n, Type: strings.NewReplacer("t0", "t5", "t1", "t6").Replace(s)})
		}
		made, ok := impl.ApplyType(binds, d.typ(2+d.below(5), 7))
		a, b := d.hidden(made, binds), d.hidden(made, binds)
		general, alsoOk := impl.UnifyTypes(a, b)
		if !ok || !alsoOk {
			t.Fatalf("%s and %s are the same by %v, but have no binds", a, b, binds)
		}
		isUnified(t, a, b, general)
		most, _ := impl.ApplyType(general, row)
		special, _ := impl.ApplyType(binds, row)
		isInstance(t, most, special, true)
		bound += len(general)
	}
	if bound < 10000 {
		t.Errorf("only %d variables were bound", bound)
	}
}

// With both types changed about there are binds if and only if there were, and what they make is the same but for names.
func TestUnifyTypesTurned(t *testing.T) {
	d := &dice{state: 2087}
	for range 5000 {
		a, b := d.typ(1+d.below(6), 5), d.typ(1+d.below(6), 5)
		binds, ok := impl.UnifyTypes(a, b)
		turned, alsoOk := impl.UnifyTypes(b, a)
		if ok != alsoOk {
			t.Errorf("UnifyTypes of %s and %s: %v and %v", a, b, ok, alsoOk)
		}
		if ok {
			there, _ := impl.ApplyType(binds, a)
			back, _ := impl.ApplyType(turned, a)
			if modelPlain(there) != modelPlain(back) {
				t.Errorf("%s and %s: %s and %s", a, b, there, back)
			}
		}
	}
}
