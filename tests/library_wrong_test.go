package tests

import (
	"fmt"
	"slices"
	"strings"
	"testing"
	"time"

	"loop.example/g00201/impl"
)

// wrongLibs are libraries that are not as said.
func wrongLibs() [][]impl.Library {
	out := [][]impl.Library{
		libsOf("base car | base cdr"), libsOf("base car | top | base car"), libsOf("base | base"), libsOf("base car | top b a"), libsOf("base car car"),
		libsOf("base cdr car"), numberedLibs(impl.MaxLibraries + 1), numberedLibs(50), {{}}, make([]impl.Library, 3), {{Name: "base"}, {}},
		{{Name: "base", Exports: numberedNames(impl.MaxNames + 1)}}, {{Name: "base"}, {Name: "top", Exports: numberedNames(impl.MaxNames + 1)}},
		{{Name: "base", Exports: make([]impl.Export, 1)}}, append(numberedLibs(19), impl.Library{Name: "l000"}), append(libsOf(baseLibs), impl.Library{Name: "base"}),
		append(libsOf(baseLibs), impl.Library{Name: "5"}), append(libsOf(baseLibs), libsOf("l b,a a,b c,b")...),
	}
	for _, s := range wrongSymbols {
		out = append(out, []impl.Library{{Name: s}}, []impl.Library{{Name: "base"}, {Name: s}}, []impl.Library{{Name: s}, {Name: "base"}},
			[]impl.Library{{Name: "base", Exports: []impl.Export{{Inner: s, Outer: "a"}}}},
			[]impl.Library{{Name: "base"}, {Name: "top", Exports: []impl.Export{{Inner: "a", Outer: s}}}})
	}
	return out
}

func TestWrongLibraries(t *testing.T) {
	for _, l := range wrongLibs() {
		for _, set := range []string{"base", "top", "nobody", "l000", "(only base)", "(only base nix)", "(rename base (car a) (cdr a))", "(prefix base b:)", "5", "", "(only base"} {
			importFails(t, l, set, impl.ImportForm)
			importAsModel(t, l, set)
			allFails(t, l, []string{set}, impl.ImportForm)
		}
		allFails(t, l, nil, impl.ImportForm)
		ordersNot(t, "libraries that are not as said", l, nil)
	}
}

// spoilLibraries changes one thing of libraries, which may then be as said or not.
func (d *dice) spoilLibraries(l []impl.Library) []impl.Library {
	text := pick(d, wrongSymbols)
	if d.below(2) == 0 {
		text = pick(d, namePool)
	}
	at := d.below(len(l))
	exports := l[at].Exports
	one := d.below(len(exports) + 1)
	switch kind := d.below(5); {
	case kind == 0:
		l[at].Name = text
	case kind == 1:
		return append(l, l[at])
	case one == len(exports):
		l[at].Exports = append(exports, impl.Export{Inner: text, Outer: "~" + text})
	case kind == 2:
		exports[one].Inner = text
	case kind == 3:
		exports[one].Outer = text
	default:
		exports[one], exports[0] = exports[0], exports[one]
	}
	return l
}

// Libraries of any names are answered as the model says.
func TestLibrariesOfAnyNames(t *testing.T) {
	d := &dice{state: 1621}
	good := 0
	for range 8000 {
		l := d.spoilLibraries(d.libraries(1 + d.below(4)))
		for _, library := range l {
			goodLibrary(t, library, modelGoodLibrary(library))
		}
		set := textOf([]tree{d.importSet(l, d.below(3))})
		importAsModel(t, l, set)
		allAsModel(t, l, []string{set, pick(d, namePool)})
		orderAsModel(t, l, d.needs(l))
		if modelLibraries(l) {
			good++
		}
	}
	if good < 1000 || good > 7000 {
		t.Errorf("%d of 8000 are as said", good)
	}
}

// Texts of any bytes are answered as the model says.
func TestImportSetsOfAnyBytes(t *testing.T) {
	d := &dice{state: 1627}
	l := libsOf(baseLibs)
	words := append(strings.Fields("( ( ) ) ( ) only except prefix rename base car cdr cons a b only rename nobody 5 #t . ' \"x\" ; \n"), "\x00", "\xff", "")
	many := map[int]int{}
	for range 30000 {
		var text []byte
		for range d.below(30) {
			text = append(text, byte(d.below(256)))
		}
		importAsModel(t, l, string(text))
		var some []string
		for range d.below(9) {
			some = append(some, pick(d, words))
		}
		importAsModel(t, l, strings.Join(some, " "))
		// An import set of which one byte is another, or lacks.
		set := []byte(pick(d, importCases).set)
		at := d.below(len(set))
		if d.below(2) == 0 {
			set[at] = byte(d.below(256))
		} else {
			set = slices.Delete(set, at, at+1)
		}
		many[importAsModel(t, l, string(set))]++
		allAsModel(t, l, []string{string(set), strings.Join(some, " ")})
	}
	for _, code := range []int{impl.ImportOk, impl.ImportForm, impl.ImportNone, impl.ImportName} {
		if many[code] < 300 {
			t.Errorf("code %d came %d times", code, many[code])
		}
	}
}

// Needs of any names, and of libraries that are none.
func TestNeedsOfAnyNames(t *testing.T) {
	l := libsOf("a x|b|c")
	for _, s := range slices.Concat(wrongSymbols, []string{"x", "A", "ab", "d", "a\x00"}) {
		for _, needs := range [][]impl.Need{
			{{From: s, To: "a"}}, {{From: "a", To: s}}, {{From: s, To: s}}, {{From: "a", To: "b"}, {From: s, To: "c"}}, {{From: s}}, {{To: s}},
		} {
			ordersNot(t, s, l, needs)
			ordersNot(t, s, nil, needs)
		}
	}
	ordersNot(t, "an empty need", l, []impl.Need{{}})
	ordersNot(t, "an empty need of no libraries", nil, []impl.Need{{}})
	for _, none := range [][]impl.Library{nil, {}} {
		for _, needs := range [][]impl.Need{nil, {}} {
			ordersAs(t, none, needs, "")
		}
	}
}

// roomyLibraries are the same libraries with others behind each list, and whether all that memory is as it was.
func roomyLibraries(l []impl.Library) ([]impl.Library, func() bool) {
	var out []impl.Library
	var same []func() bool
	for _, library := range l {
		exports, isSame := roomy(library.Exports, impl.Export{Inner: "behind", Outer: "zz"}, impl.Export{Outer: "a"})
		out = append(out, impl.Library{Name: library.Name, Exports: exports})
		same = append(same, isSame)
	}
	memory := append(out, impl.Library{Name: "behind", Exports: namesOf("x")}, impl.Library{})
	before := fmt.Sprint(memory)
	return memory[:len(l)], func() bool {
		return fmt.Sprint(memory) == before && !slices.ContainsFunc(same, func(isSame func() bool) bool { return !isSame() })
	}
}

// Nothing is written into an argument, what is behind a list is neither read nor handed out, and an answer that is
// written over changes nothing of the arguments and of no other answer.
func TestLibrariesAreNotWritten(t *testing.T) {
	d := &dice{state: 1637}
	for range 3000 {
		plain := d.libraries(1 + d.below(5))
		if d.below(5) == 0 {
			plain = d.spoilLibraries(plain)
		}
		l, same := roomyLibraries(plain)
		var plainSets []string
		for range 1 + d.below(3) {
			plainSets = append(plainSets, textOf([]tree{d.importSet(plain, d.below(4))}))
		}
		sets, setsSame := roomy(plainSets, "nobody", "(")
		needs, needsSame := roomy(d.needs(plain), impl.Need{From: "nobody", To: "a"}, impl.Need{})
		for _, library := range l {
			goodLibrary(t, library, modelGoodLibrary(library))
		}
		importAsModel(t, l, sets[0])
		allAsModel(t, l, sets)
		orderAsModel(t, l, needs)
		names, _ := impl.ImportNames(l, sets[0])
		all, _ := impl.ImportAll(l, sets)
		order, _ := impl.OrderLibraries(l, needs)
		isEmptyBehind(t, names)
		isEmptyBehind(t, all)
		isEmptyBehind(t, order)
		fill(names, impl.Export{Inner: "spoilt", Outer: "spoilt"})
		importAsModel(t, l, sets[0])
		allAsModel(t, l, sets)
		fill(all, impl.Export{Inner: "spoilt"})
		fill(order, "spoilt")
		other, _ := impl.OrderLibraries(l, needs)
		fill(other, "spoilt, too")
		orderAsModel(t, l, needs)
		importAsModel(t, l, sets[0])
		if slices.Contains(order, "spoilt, too") || !same() || !setsSame() || !needsSame() {
			t.Fatalf("%v, %q or %v was written into", plain, sets, needs)
		}
	}
	// A library alone is handed out as new memory, too.
	l := libsOf("base a b")
	for _, set := range []string{"base", "(only base a b)", "(except base)", "(rename base)", "(prefix (only base) a)"} {
		names, _ := impl.ImportNames(l, set)
		fill(names, impl.Export{})
		names, _ = impl.ImportAll(l, []string{set})
		fill(names, impl.Export{})
		imports(t, l, "base", "a b")
	}
	// Nothing is kept: the same asked again of other libraries.
	for range 3 {
		imports(t, libsOf("base a"), "base", "a")
		imports(t, libsOf("base b"), "base", "b")
		importFails(t, libsOf("top b"), "base", impl.ImportNone)
	}
}

// Lists and texts of any length are answered in good time.
func TestLibrariesInGoodTime(t *testing.T) {
	inTime(t, 20*time.Second, func() {
		many := 1 << 20
		long := strings.Repeat("a", many)
		goodLibrary(t, impl.Library{Name: long}, false)
		if impl.GoodLibrary(impl.Library{Name: "a", Exports: numberedNames(many)}) || impl.GoodLibrary(impl.Library{Name: "a", Exports: make([]impl.Export, many)}) {
			t.Error("a million names are good")
		}
		l := numberedLibs(many)
		importFails(t, l, "l000", impl.ImportForm)
		allFails(t, l, []string{"l000"}, impl.ImportForm)
		ordersNot(t, "a million libraries", l, nil)
		few := libsOf(baseLibs)
		for _, text := range []string{long, strings.Repeat("(only ", many), strings.Repeat("(", many), strings.Repeat("'", many), strings.Repeat(" ", many), strings.Repeat("\xff", many)} {
			importFails(t, few, text, impl.ImportForm)
			allFails(t, few, []string{"base", text}, impl.ImportForm)
		}
		allFails(t, few, slices.Repeat([]string{"base"}, many), impl.ImportForm)
		ordersNot(t, "a million needs", few, slices.Repeat(needsOf("base>only"), many))
		ordersNot(t, "a million needs of no library", few, make([]impl.Need, many))
		full := make([]impl.Library, 0, impl.MaxLibraries)
		for _, library := range numberedLibs(impl.MaxLibraries) {
			full = append(full, impl.Library{Name: library.Name, Exports: numberedNames(impl.MaxNames)})
		}
		deep := strings.Repeat("(prefix ", impl.MaxDeep) + "l000" + strings.Repeat(" p)", impl.MaxDeep)
		sets := slices.Repeat([]string{deep}, 20)
		var needs []impl.Need
		for at := range 100 {
			needs = append(needs, impl.Need{From: fmt.Sprintf("l%03d", at%19+1), To: "l000"})
		}
		for range 100 {
			impl.ImportAll(full, sets)
			impl.OrderLibraries(full, needs)
		}
	})
}
