package tests

import (
	"fmt"
	"slices"
	"strings"
	"testing"

	"loop.example/g00201/impl"
)

// What a prefix makes has at most 30 bytes.
func TestImportPrefixLength(t *testing.T) {
	for outer := 1; outer <= 30; outer++ {
		l := []impl.Library{{Name: "l", Exports: []impl.Export{{Inner: "i", Outer: "!"}, {Inner: "j", Outer: strings.Repeat("a", outer)}}}}
		for ahead := 1; ahead <= 30; ahead++ {
			prefix := strings.Repeat("p", ahead)
			set := "(prefix l " + prefix + ")"
			if ahead+outer <= 30 {
				imports(t, l, set, "i,"+prefix+"! j,"+prefix+strings.Repeat("a", outer))
			} else {
				importFails(t, l, set, impl.ImportName)
			}
			importAsModel(t, l, "(except "+set+" "+prefix+"!)")
		}
	}
	// Of no names nothing is made, but the prefix must be a symbol.
	l := libsOf("l | m a")
	for ahead := 1; ahead <= 31; ahead++ {
		for _, set := range []string{"l", "(only m)", "(except m a)"} {
			text := "(prefix " + set + " " + strings.Repeat("p", ahead) + ")"
			if ahead <= 30 {
				imports(t, l, text, "")
			} else {
				importFails(t, l, text, impl.ImportForm)
			}
		}
	}
}

// Import sets stand within each other as deep as data may, and texts are as long as those may be.
func TestImportLimits(t *testing.T) {
	l := libsOf("l a | long " + strings.Repeat("x", 30))
	for lists := range 30 {
		only := strings.Repeat("(only ", lists) + "l" + strings.Repeat(" a)", lists)
		prefix := strings.Repeat("(prefix ", lists) + "l" + strings.Repeat(" p)", lists)
		rename := strings.Repeat("(rename ", lists) + "l" + strings.Repeat(" (a a))", lists)
		if lists <= impl.MaxDeep {
			imports(t, l, only, "a")
			imports(t, l, prefix, "a,"+strings.Repeat("p", lists)+"a")
		} else {
			importFails(t, l, only, impl.ImportForm)
			importFails(t, l, prefix, impl.ImportForm)
		}
		// The outermost pair is in one list, but the innermost one is in as many as there are.
		if lists < impl.MaxDeep {
			imports(t, l, rename, "a")
		} else {
			importFails(t, l, rename, impl.ImportForm)
		}
	}
	for _, many := range []int{impl.MaxNodes - 4, impl.MaxNodes - 3, impl.MaxNodes - 2, 400} {
		want := impl.ImportName
		if many+3 > impl.MaxNodes {
			want = impl.ImportForm
		}
		importFails(t, l, "(only l"+strings.Repeat(" a", many)+")", want)
	}
	text := "(prefix l p)"
	imports(t, l, text+strings.Repeat(" ", impl.MaxText-len(text)), "a,pa")
	importFails(t, l, text+strings.Repeat(" ", impl.MaxText-len(text)+1), impl.ImportForm)
	importFails(t, l, strings.Repeat(" ", 100000)+"l", impl.ImportForm)
	// All of the greatest library, and each name of it by itself.
	full := []impl.Library{{Name: "full", Exports: numberedNames(impl.MaxNames)}}
	var names []string
	for _, e := range full[0].Exports {
		names = append(names, e.Outer)
		importAsModel(t, full, "(only full "+e.Outer+")")
		importAsModel(t, full, "(except full "+e.Outer+")")
	}
	slices.Reverse(names)
	got, code := impl.ImportNames(full, "(only full "+strings.Join(names, " ")+")")
	if code != impl.ImportOk || !slices.Equal(got, full[0].Exports) {
		t.Errorf("all of 40 names: %v, %d", got, code)
	}
	importFails(t, []impl.Library{{Name: "full", Exports: numberedNames(impl.MaxNames + 1)}}, "full", impl.ImportForm)
}

func TestImportOfManyLibraries(t *testing.T) {
	for many := range impl.MaxLibraries + 3 {
		l := numberedLibs(many)
		for at := range many {
			set := fmt.Sprintf("l%03d", many-1-at)
			if many <= impl.MaxLibraries {
				imports(t, l, set, fmt.Sprintf("x%d", at))
			} else {
				importFails(t, l, set, impl.ImportForm)
			}
		}
		want := impl.ImportNone
		if many > impl.MaxLibraries {
			want = impl.ImportForm
		}
		importFails(t, l, "nobody", want)
	}
}

// Every import set of one and of two changes, of few names, is as the model says.
func TestEveryShortImportSet(t *testing.T) {
	l := libsOf("l x,a y,b")
	words := strings.Fields("a b c")
	var changes []string
	for _, names := range listsOf(2, words) {
		tail := strings.TrimRight(" "+strings.Join(names, " "), " ")
		changes = append(changes, "(only %s"+tail+")", "(except %s"+tail+")")
	}
	var pairs []string
	for _, from := range words {
		changes = append(changes, "(prefix %s "+from+")")
		for _, to := range words {
			pairs = append(pairs, "("+from+" "+to+")")
		}
	}
	for _, some := range listsOf(2, pairs) {
		changes = append(changes, "(rename %s "+strings.Join(some, " ")+")")
	}
	many := map[int]int{}
	for _, inner := range changes {
		within := fmt.Sprintf(inner, "l")
		many[importAsModel(t, l, within)]++
		for _, outer := range changes {
			many[importAsModel(t, l, fmt.Sprintf(outer, within))]++
		}
	}
	for _, code := range []int{impl.ImportOk, impl.ImportName, impl.ImportTwice} {
		if many[code] < 300 {
			t.Errorf("code %d came %d times", code, many[code])
		}
	}
}

// Drawn import sets, deep within each other, are as the model says.
func TestDrawnImportSets(t *testing.T) {
	d := &dice{state: 1601}
	many := map[int]int{}
	for range 15000 {
		l := d.libraries(1 + d.below(4))
		set := textOf([]tree{d.importSet(l, d.below(6))})
		many[importAsModel(t, l, set)]++
	}
	for _, code := range []int{impl.ImportOk, impl.ImportNone, impl.ImportName, impl.ImportTwice} {
		if many[code] < 300 {
			t.Errorf("code %d came %d times", code, many[code])
		}
	}
}

// What is only and what is except are together all of the set, and none is in both.
func TestOnlyAndExcept(t *testing.T) {
	d := &dice{state: 1607}
	for range 3000 {
		l := d.libraries(1 + d.below(3))
		set := textOf([]tree{d.importSet(l, d.below(4))})
		all, code := impl.ImportNames(l, set)
		if code != impl.ImportOk {
			continue
		}
		names := ""
		some := shuffled(d, all)[:d.below(len(all)+1)]
		for _, e := range some {
			names += " " + e.Outer
		}
		only, onlyCode := impl.ImportNames(l, "(only "+set+names+")")
		except, exceptCode := impl.ImportNames(l, "(except "+set+names+")")
		both := slices.SortedFunc(slices.Values(slices.Concat(only, except)), func(a impl.Export, b impl.Export) int { return strings.Compare(a.Outer, b.Outer) })
		if onlyCode != impl.ImportOk || exceptCode != impl.ImportOk || len(only) != len(some) || !slices.Equal(both, all) {
			t.Errorf("%s of %s: only %v, %d; except %v, %d; all %v", names, set, only, onlyCode, except, exceptCode, all)
		}
	}
}

// What is renamed there and back is as it was, also where names change places; and so is what has a prefix that is taken
// away again.
func TestRenamedThereAndBack(t *testing.T) {
	d := &dice{state: 1609}
	prefixed := 0
	for range 3000 {
		l := d.libraries(1 + d.below(3))
		set := textOf([]tree{d.importSet(l, d.below(4))})
		all, code := impl.ImportNames(l, set)
		if code != impl.ImportOk {
			continue
		}
		some := shuffled(d, all)[:d.below(len(all)+1)]
		there, back, isLong := "", "", false
		for at, other := range shuffled(d, some) {
			from, to := some[at].Outer, other.Outer
			if d.below(2) == 0 {
				to = fmt.Sprintf("new%d", at)
			}
			there += " (" + from + " " + to + ")"
			back += " (" + to + " " + from + ")"
		}
		once, onceCode := impl.ImportNames(l, "(rename "+set+there+")")
		got, code := impl.ImportNames(l, "(rename (rename "+set+there+")"+back+")")
		if onceCode != impl.ImportOk || len(once) != len(all) || code != impl.ImportOk || !slices.Equal(got, all) {
			t.Errorf("%s renamed by %s: %v, %d; back: %v, %d; was %v", set, there, once, onceCode, got, code, all)
		}
		back = ""
		for _, e := range all {
			back += " (p:" + e.Outer + " " + e.Outer + ")"
			isLong = isLong || len(e.Outer) > 28
		}
		if got, code := impl.ImportNames(l, "(rename (prefix "+set+" p:)"+back+")"); !isLong {
			prefixed++
			if code != impl.ImportOk || !slices.Equal(got, all) {
				t.Errorf("%s: prefixed and back: %v, %d; was %v", set, got, code, all)
			}
		}
	}
	if prefixed < 1000 {
		t.Errorf("only %d were prefixed", prefixed)
	}
}
