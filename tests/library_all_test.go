package tests

import (
	"fmt"
	"slices"
	"strings"
	"testing"

	"loop.example/g00201/impl"
)

const allLibs = "base car cdr kons,cons | lists kar,car cdr last | again car cdr | empty | same x,a x,b | B a,Z b,a"

// importAllCases are import sets, `|` between them, and all their names.
var importAllCases = []struct {
	sets string
	want string
}{
	{"base", "car cdr kons,cons"}, {"empty", ""}, {"empty|empty", ""}, {"base|base", "car cdr kons,cons"}, {"base|again", "car cdr kons,cons"},
	{"again|base", "car cdr kons,cons"}, {"base|empty|again|base", "car cdr kons,cons"}, {"(only base cons)|(only base car)", "car kons,cons"},
	{"base|(prefix lists l:)", "car cdr kons,cons kar,l:car cdr,l:cdr last,l:last"}, {"(prefix lists l:)|base", "car cdr kons,cons kar,l:car cdr,l:cdr last,l:last"},
	{"base|(except lists car)", "car cdr kons,cons last"}, {"base|(rename lists (car kar))", "car cdr kons,cons kar last"},
	{"(rename base (car a))|(rename base (car b))", "car,a car,b cdr kons,cons"}, {"lists|(except base car)", "kar,car cdr kons,cons last"},
	{"base|(rename lists (car last) (last end))", "car cdr kons,cons last,end kar,last"}, {"(rename lists (car cdr) (cdr car))|(only (rename base (cdr car) (car cdr)) car)", "cdr,car kar,cdr last"},
	{"same|(rename same (a b) (b a))", "x,a x,b"}, {"same|(prefix same a)", "x,a x,aa x,ab x,b"}, {"same|B", "!"}, {"(only same b)|B", "a,Z b,a x,b"},
	{"B|(only base car)|(prefix B A)", "a,AZ b,Aa a,Z b,a car"}, {"(only base)|(only lists)", ""}, {"(only base)|lists", "kar,car cdr last"},
}

func TestImportAll(t *testing.T) {
	l := libsOf(allLibs)
	for _, c := range importAllCases {
		sets := strings.Split(c.sets, "|")
		allAsModel(t, l, sets)
		if c.want == "!" {
			allFails(t, l, sets, impl.ImportTwice)
			continue
		}
		got, code := impl.ImportAll(l, sets)
		if code != impl.ImportOk || !slices.Equal(got, namesOf(strings.Fields(c.want)...)) {
			t.Errorf("ImportAll(%s): %v, %d; wanted %s", c.sets, got, code, c.want)
		}
		slices.Reverse(sets)
		if other, code := impl.ImportAll(l, sets); code != impl.ImportOk || !slices.Equal(other, got) {
			t.Errorf("ImportAll(%s) the other way round: %v, %d; wanted %v", c.sets, other, code, got)
		}
	}
	for _, none := range [][]string{nil, {}} {
		for _, l := range [][]impl.Library{nil, {}, l, numberedLibs(impl.MaxLibraries)} {
			if got, code := impl.ImportAll(l, none); len(got) != 0 || code != impl.ImportOk {
				t.Errorf("ImportAll of no set: %v, %d", got, code)
			}
		}
	}
}

// The first fault in the order of the sets, whatever faults come behind it.
func TestImportAllFaults(t *testing.T) {
	l := libsOf(allLibs)
	for _, c := range []struct {
		sets string
		want int
	}{
		{"nobody", impl.ImportNone}, {"(only base nix)", impl.ImportName}, {"(rename base (car cdr))", impl.ImportTwice}, {"", impl.ImportForm}, {"5", impl.ImportForm},
		{"base lists", impl.ImportForm}, {"base|lists", impl.ImportTwice}, {"lists|base", impl.ImportTwice}, {"base|empty|lists", impl.ImportTwice},
		{"base|again|lists", impl.ImportTwice}, {"base|(rename lists (last cons))", impl.ImportTwice}, {"base|(only lists car)", impl.ImportTwice},
		{"base|(rename base (car cdr) (cdr car))", impl.ImportTwice}, {"(only same a)|(only B a)", impl.ImportTwice}, {"(only base car)|(rename (only base cdr) (cdr car))", impl.ImportTwice},
		{"base|nobody", impl.ImportNone}, {"base|(only base nix)", impl.ImportName}, {"base|5", impl.ImportForm}, {"base|", impl.ImportForm},
		{"nobody|5", impl.ImportNone}, {"nobody|(only base nix)", impl.ImportNone}, {"nobody|base|lists", impl.ImportNone}, {"nobody|", impl.ImportNone},
		{"(only base nix)|5", impl.ImportName}, {"(only base nix)|nobody", impl.ImportName}, {"(only base nix)|(rename base (car cdr))", impl.ImportName},
		{"(rename base (car cdr))|5", impl.ImportTwice}, {"(rename base (car cdr))|nobody", impl.ImportTwice}, {"(rename base (car cdr))|(only base nix)", impl.ImportTwice},
		{"5|nobody", impl.ImportForm}, {"(|(only base nix)", impl.ImportForm}, {"5|(rename base (car cdr))", impl.ImportForm},
		{"empty|(only base nix)|nobody|5", impl.ImportName}, {"base|nobody|lists", impl.ImportNone}, {"base|(only base nix)|lists", impl.ImportName},
		{"base|5|lists", impl.ImportForm}, {"base|lists|5", impl.ImportTwice}, {"base|lists|nobody", impl.ImportTwice}, {"base|lists|(only base nix)", impl.ImportTwice},
		{"base|again|lists|5", impl.ImportTwice}, {"base|(rename lists (car cdr))", impl.ImportTwice}, {"base|(only lists car nix)", impl.ImportName},
	} {
		sets := strings.Split(c.sets, "|")
		allFails(t, l, sets, c.want)
		allAsModel(t, l, sets)
	}
}

// 20 sets may be, and no more of them, whatever they are.
func TestImportAllOfManySets(t *testing.T) {
	l := libsOf(allLibs)
	for many := range 30 {
		allAsModel(t, l, slices.Repeat([]string{"base"}, many))
		allAsModel(t, l, slices.Repeat([]string{"nobody"}, many))
		if many > 20 {
			for _, set := range []string{"empty", "base", "nobody", "5", "(only base nix)"} {
				allFails(t, l, slices.Repeat([]string{set}, many), impl.ImportForm)
			}
		}
	}
	var sets []string
	var full []impl.Library
	for at := range impl.MaxLibraries {
		name := fmt.Sprintf("l%03d", 19-at)
		full = append(full, impl.Library{Name: name, Exports: numberedNames(impl.MaxNames)})
		sets = append(sets, "(prefix "+name+" "+name+":)")
	}
	got, code := impl.ImportAll(full, sets)
	if code != impl.ImportOk || len(got) != 800 || !slices.IsSortedFunc(got, func(a impl.Export, b impl.Export) int { return strings.Compare(a.Outer, b.Outer) }) {
		t.Errorf("all names of all libraries: %d, %d", len(got), code)
	}
	allAsModel(t, full, sets)
	sets[19] = "(prefix l000 l001:)"
	allAsModel(t, full, sets)
	full[19].Exports[39].Inner = "other"
	allFails(t, full, sets, impl.ImportTwice)
	allAsModel(t, full, sets)
}

func TestDrawnImportAll(t *testing.T) {
	d := &dice{state: 1613}
	many := map[int]int{}
	for range 8000 {
		l := d.libraries(1 + d.below(4))
		var sets []string
		for range d.below(5) {
			sets = append(sets, textOf([]tree{d.importSet(l, d.below(4))}))
		}
		if d.below(20) == 0 {
			sets = append(sets, pick(d, noImportSets), pick(d, noDatum))
		}
		many[allAsModel(t, l, shuffled(d, sets))]++
	}
	for _, code := range []int{impl.ImportOk, impl.ImportForm, impl.ImportNone, impl.ImportName, impl.ImportTwice} {
		if many[code] < 100 {
			t.Errorf("code %d came %d times", code, many[code])
		}
	}
}

var orderCases = []struct {
	names string
	needs string
	want  string
}{
	{"", "", ""}, {"a", "", "a"}, {"c a b", "", "a b c"}, {"B a b A", "", "A B a b"}, {"x10 x2 x1", "", "x1 x10 x2"}, {"base top", "base>top", "top base"},
	{"base top", "top>base", "base top"}, {"a b c", "a>b b>c", "c b a"}, {"a b c", "b>c a>b", "c b a"}, {"a b c", "a>c", "b c a"}, {"a b c d", "a>d", "b c d a"},
	{"a b c d", "a>c b>d", "c a d b"}, {"a b c d", "a>d b>c", "c b d a"}, {"a b c d", "b>a c>a d>b d>c", "a b c d"}, {"d c b a", "a>d a>c a>b", "b c d a"},
	{"a b c", "a>b a>b a>b", "b a c"}, {"a b c d", "d>a c>a b>a", "a b c d"}, {"a b", "a>b a>b", "b a"}, {"a b c d e", "a>e b>a", "c d e a b"},
	{"a b c d e f", "a>f c>e d>c", "b e c d f a"}, {"ab a b", "a>ab", "ab a b"}, {"lists base strings", "lists>base strings>base strings>lists", "base lists strings"},
	{"a", "a>a", "!"}, {"a b", "a>b b>a", "!"}, {"a b c", "a>b b>c c>a", "!"}, {"a b c", "b>b", "!"}, {"a b c d", "b>c c>d d>b", "!"}, {"a b c", "a>b b>c c>b", "!"},
	{"a b", "a>c", "!"}, {"a b", "c>a", "!"}, {"a b", "c>d", "!"}, {"a b", "c>c", "!"}, {"", "a>b", "!"}, {"a b", "A>b", "!"}, {"a b", "a>", "!"}, {"a b", ">a", "!"},
	{"a b", "a>b a>c", "!"}, {"a b", ">", "!"},
}

func TestOrderLibraries(t *testing.T) {
	for _, c := range orderCases {
		l := libsOf(strings.Join(strings.Fields(c.names), "|"))
		needs := needsOf(c.needs)
		orderAsModel(t, l, needs)
		if c.want == "!" {
			ordersNot(t, c.needs, l, needs)
			continue
		}
		ordersAs(t, l, needs, c.want)
		slices.Reverse(l)
		slices.Reverse(needs)
		ordersAs(t, l, needs, c.want)
	}
}

// Of a few libraries each list of needs is answered as the model says.
func TestEveryFewNeeds(t *testing.T) {
	l := libsOf("b x|c|a y,x z")
	var all []impl.Need
	for _, from := range strings.Fields("a b c d") {
		for _, to := range strings.Fields("a b c") {
			all = append(all, impl.Need{From: from, To: to})
		}
	}
	for _, needs := range listsOf(4, all) {
		orderAsModel(t, l, needs)
	}
}

func TestOrderLimits(t *testing.T) {
	l := numberedLibs(impl.MaxLibraries)
	var names, rising []string
	for at := range impl.MaxLibraries {
		names = append(names, fmt.Sprintf("l%03d", at))
	}
	rising = slices.Clone(names)
	slices.Reverse(names)
	ordersAs(t, l, nil, strings.Join(rising, " "))
	// Each but the last one needs the next one, 100 needs in all.
	var needs []impl.Need
	for len(needs) < 100 {
		at := len(needs) % 19
		needs = append(needs, impl.Need{From: rising[at], To: rising[at+1]})
	}
	ordersAs(t, l, needs, strings.Join(names, " "))
	ordersNot(t, "101 needs", l, append(slices.Clone(needs), needs[0]))
	ordersNot(t, "101 needs that stand there", l, slices.Repeat(needs[:1], 101))
	ordersAs(t, l, slices.Repeat(needs[:1], 100), "l001 l000 "+strings.Join(rising[2:], " "))
	ordersNot(t, "a ring of all", l, append(slices.Clone(needs[:19]), impl.Need{From: rising[19], To: rising[0]}))
	ordersNot(t, "21 libraries", numberedLibs(impl.MaxLibraries+1), nil)
}

// Each library stands behind all that it needs, all stand there, and at each place the first by Name of all that may.
func TestDrawnOrders(t *testing.T) {
	d := &dice{state: 1619}
	some := 0
	for round := range 4000 {
		l := d.libraries(d.below(impl.MaxLibraries + 1))
		if round%2 == 0 {
			l = l[:min(len(l), 6)]
		}
		needs := d.needs(l)
		if len(l) <= 6 {
			orderAsModel(t, l, needs)
		}
		got, ok := impl.OrderLibraries(l, needs)
		if !ok {
			if hasOrder(l, needs) {
				t.Errorf("%v has an order", needs)
			}
			continue
		}
		some++
		if len(got) != len(l) || !isOrder(got, needs) {
			t.Errorf("%v: %v", needs, got)
		}
		for _, library := range l {
			if !slices.Contains(got, library.Name) {
				t.Errorf("%s is not in %v", library.Name, got)
			}
		}
		for at, name := range got {
			for _, behind := range got[at+1:] {
				mayBeNext := !slices.ContainsFunc(needs, func(n impl.Need) bool { return n.From == behind && slices.Index(got, n.To) >= at })
				if mayBeNext && behind < name {
					t.Errorf("%v: %v: %s may stand ahead of %s", needs, got, behind, name)
				}
			}
		}
	}
	if some < 1500 || some > 3900 {
		t.Errorf("%d of 4000 had an order", some)
	}
}

// needs draws needs: most often of what is ahead in some order.
func (d *dice) needs(l []impl.Library) []impl.Need {
	var needs []impl.Need
	if len(l) < 2 {
		return nil
	}
	order := shuffled(d, l)
	for range d.below(min(100, 3*len(l)) + 1) {
		at := 1 + d.below(len(l)-1)
		needs = append(needs, impl.Need{From: order[at].Name, To: order[d.below(at)].Name})
	}
	if d.below(4) == 0 && len(needs) < 100 {
		needs = append(needs, impl.Need{From: pick(d, order).Name, To: pick(d, order).Name})
	}
	return needs
}

// hasOrder takes away libraries that nothing which is left needs, in any order.
func hasOrder(l []impl.Library, needs []impl.Need) bool {
	left := slices.Clone(needs)
	for range l {
		now := slices.Clone(left)
		left = slices.DeleteFunc(left, func(n impl.Need) bool {
			return !slices.ContainsFunc(now, func(other impl.Need) bool { return other.From == n.To })
		})
	}
	return len(left) == 0
}
