package tests

import (
	"fmt"
	"maps"
	"slices"
	"strings"
	"testing"

	"loop.example/g00201/impl"
)

// libsOf makes libraries of a text: each begins with its Name, and `|` stands between them; `kons,cons` is Inner and
// Outer, where both are the same one of them is enough.
func libsOf(text string) []impl.Library {
	var out []impl.Library
	if text == "" {
		return out
	}
	for _, one := range strings.Split(text, "|") {
		words := strings.Fields(one)
		out = append(out, impl.Library{Name: words[0], Exports: namesOf(words[1:]...)})
	}
	return out
}

func namesOf(words ...string) []impl.Export {
	var out []impl.Export
	for _, word := range words {
		inner, outer, two := strings.Cut(word, ",")
		if !two {
			outer = inner
		}
		out = append(out, impl.Export{Inner: inner, Outer: outer})
	}
	return out
}

// needsOf makes needs of a text like `top>base top>lists`.
func needsOf(text string) []impl.Need {
	var out []impl.Need
	for _, word := range strings.Fields(text) {
		from, to, _ := strings.Cut(word, ">")
		out = append(out, impl.Need{From: from, To: to})
	}
	return out
}

// numberedNames are so many names, rising.
func numberedNames(many int) []impl.Export {
	var out []impl.Export
	for at := range many {
		out = append(out, impl.Export{Inner: fmt.Sprintf("i%d", at%7), Outer: fmt.Sprintf("n%03d", at)})
	}
	return out
}

// numberedLibs are so many libraries with one name each, the last one by Name first.
func numberedLibs(many int) []impl.Library {
	var out []impl.Library
	for at := range many {
		out = append(out, impl.Library{Name: fmt.Sprintf("l%03d", many-1-at), Exports: namesOf(fmt.Sprintf("x%d", at))})
	}
	return out
}

func isSymbolText(s string) bool {
	_, isNumber := impl.ReadNum(s)
	return modelSymbol.MatchString(s) && s != "." && !isNumber
}

func modelGoodLibrary(l impl.Library) bool {
	good := isSymbolText(l.Name) && len(l.Exports) <= 40
	var outers []string
	for _, e := range l.Exports {
		good = good && isSymbolText(e.Inner) && isSymbolText(e.Outer)
		outers = append(outers, e.Outer)
	}
	sorted := slices.Compact(slices.Sorted(slices.Values(outers)))
	return good && slices.Equal(sorted, outers)
}

func modelLibraries(l []impl.Library) bool {
	names := map[string]bool{}
	for _, library := range l {
		if !modelGoodLibrary(library) {
			return false
		}
		names[library.Name] = true
	}
	return len(l) <= 20 && len(names) == len(l)
}

func areSymbols(parts []tree) bool {
	return !slices.ContainsFunc(parts, func(p tree) bool { return p.kind != impl.DatumSym })
}

// isImportSet tells whether a datum has the shape of an import set.
func isImportSet(p tree) bool {
	if p.kind == impl.DatumSym {
		return true
	}
	if p.kind != impl.DatumList || len(p.parts) < 2 || !isImportSet(p.parts[1]) {
		return false
	}
	behind := p.parts[2:]
	switch {
	case isSym(p.parts[0], "only") || isSym(p.parts[0], "except"):
		return areSymbols(behind)
	case isSym(p.parts[0], "prefix"):
		return areSymbols(behind) && len(behind) == 1
	case isSym(p.parts[0], "rename"):
		return !slices.ContainsFunc(behind, func(pair tree) bool {
			return pair.kind != impl.DatumList || len(pair.parts) != 2 || !areSymbols(pair.parts)
		})
	}
	return false
}

// modelNames gives the Inners of what an import set asks for, by their Outers.
func modelNames(l []impl.Library, p tree) (map[string]string, int) {
	inners := map[string]string{}
	if p.kind == impl.DatumSym {
		for _, library := range l {
			if library.Name == p.text {
				for _, e := range library.Exports {
					inners[e.Outer] = e.Inner
				}
				return inners, impl.ImportOk
			}
		}
		return nil, impl.ImportNone
	}
	within, code := modelNames(l, p.parts[1])
	if code != impl.ImportOk {
		return nil, code
	}
	if isSym(p.parts[0], "prefix") {
		for outer, inner := range within {
			longer := p.parts[2].text + outer
			if !isSymbolText(longer) {
				return nil, impl.ImportName
			}
			inners[longer] = inner
		}
		return inners, impl.ImportOk
	}
	called := map[string]string{}
	for _, part := range p.parts[2:] {
		name, other := part.text, part.text
		if isSym(p.parts[0], "rename") {
			name, other = part.parts[0].text, part.parts[1].text
		}
		_, isThere := within[name]
		_, again := called[name]
		if !isThere || again {
			return nil, impl.ImportName
		}
		called[name] = other
	}
	for outer, inner := range within {
		other, isCalled := called[outer]
		switch {
		case isSym(p.parts[0], "only") && !isCalled, isSym(p.parts[0], "except") && isCalled:
			continue
		case !isCalled:
			other = outer
		}
		if _, again := inners[other]; again {
			return nil, impl.ImportTwice
		}
		inners[other] = inner
	}
	return inners, impl.ImportOk
}

func sortedNames(inners map[string]string) []impl.Export {
	var out []impl.Export
	for _, outer := range slices.Sorted(maps.Keys(inners)) {
		out = append(out, impl.Export{Inner: inners[outer], Outer: outer})
	}
	return out
}

// modelInners is what ImportNames should answer, by Outers.
func modelInners(l []impl.Library, s string) (map[string]string, int) {
	nodes, code := modelRead(s)
	forest := treesOf(nodes)
	if !modelLibraries(l) || code != impl.ReadOk || len(forest) != 1 || !isImportSet(forest[0]) {
		return nil, impl.ImportForm
	}
	return modelNames(l, forest[0])
}

func modelAll(l []impl.Library, sets []string) ([]impl.Export, int) {
	if !modelLibraries(l) || len(sets) > 20 {
		return nil, impl.ImportForm
	}
	all := map[string]string{}
	for _, s := range sets {
		inners, code := modelInners(l, s)
		if code != impl.ImportOk {
			return nil, code
		}
		for outer, inner := range inners {
			if other, again := all[outer]; again && other != inner {
				return nil, impl.ImportTwice
			}
			all[outer] = inner
		}
	}
	return sortedNames(all), impl.ImportOk
}

// modelOrder tries all orders of names that rise, and takes the first one in which each library stands behind all that
// it needs. That takes long for many libraries.
func modelOrder(l []impl.Library, needs []impl.Need) ([]string, bool) {
	var names []string
	for _, library := range l {
		names = append(names, library.Name)
	}
	unknown := slices.ContainsFunc(needs, func(n impl.Need) bool {
		return !slices.Contains(names, n.From) || !slices.Contains(names, n.To)
	})
	if !modelLibraries(l) || len(needs) > 100 || unknown {
		return nil, false
	}
	slices.Sort(names)
	return firstOrder(nil, names, needs)
}

func firstOrder(ahead []string, left []string, needs []impl.Need) ([]string, bool) {
	if len(left) == 0 {
		return ahead, isOrder(ahead, needs)
	}
	for at, name := range left {
		others := slices.Concat(left[:at], left[at+1:])
		if order, ok := firstOrder(append(slices.Clone(ahead), name), others, needs); ok {
			return order, true
		}
	}
	return nil, false
}

func isOrder(names []string, needs []impl.Need) bool {
	return !slices.ContainsFunc(needs, func(n impl.Need) bool {
		return slices.Index(names, n.From) <= slices.Index(names, n.To)
	})
}

// imports asks for names, written as libsOf has them.
func imports(t *testing.T, l []impl.Library, set string, want string) {
	t.Helper()
	got, code := impl.ImportNames(l, set)
	if code != impl.ImportOk || !slices.Equal(got, namesOf(strings.Fields(want)...)) {
		t.Errorf("ImportNames(%s): %v, %d; wanted %s", set, got, code, want)
	}
}

// importFails asks for nothing, and a code.
func importFails(t *testing.T, l []impl.Library, set string, want int) {
	t.Helper()
	if got, code := impl.ImportNames(l, set); len(got) != 0 || code != want {
		t.Errorf("ImportNames(%s): %v, %d; wanted nothing, %d", short(set), got, code, want)
	}
}

// importAsModel holds ImportNames against the model, and gives the code.
func importAsModel(t *testing.T, l []impl.Library, set string) int {
	t.Helper()
	inners, want := modelInners(l, set)
	got, code := impl.ImportNames(l, set)
	if code != want || !slices.Equal(got, sortedNames(inners)) {
		t.Errorf("ImportNames(%v, %q): %v, %d; wanted %v, %d", l, set, got, code, sortedNames(inners), want)
	}
	return code
}

// allFails asks for nothing, and a code.
func allFails(t *testing.T, l []impl.Library, sets []string, want int) {
	t.Helper()
	if got, code := impl.ImportAll(l, sets); len(got) != 0 || code != want {
		t.Errorf("ImportAll of %d sets %.5q: %v, %d; wanted nothing, %d", len(sets), sets, got, code, want)
	}
}

func allAsModel(t *testing.T, l []impl.Library, sets []string) int {
	t.Helper()
	want, wantCode := modelAll(l, sets)
	got, code := impl.ImportAll(l, sets)
	if code != wantCode || !slices.Equal(got, want) {
		t.Errorf("ImportAll(%v, %q): %v, %d; wanted %v, %d", l, sets, got, code, want, wantCode)
	}
	return code
}

func ordersAs(t *testing.T, l []impl.Library, needs []impl.Need, want string) {
	t.Helper()
	if got, ok := impl.OrderLibraries(l, needs); !ok || !slices.Equal(got, strings.Fields(want)) {
		t.Errorf("OrderLibraries(%v): %v, %v; wanted %s", needs, got, ok, want)
	}
}

func ordersNot(t *testing.T, what string, l []impl.Library, needs []impl.Need) {
	t.Helper()
	if got, ok := impl.OrderLibraries(l, needs); ok || len(got) != 0 {
		t.Errorf("%s: %v, %v; wanted no order", what, got, ok)
	}
}

func orderAsModel(t *testing.T, l []impl.Library, needs []impl.Need) bool {
	t.Helper()
	want, wantOk := modelOrder(l, needs)
	got, ok := impl.OrderLibraries(l, needs)
	if ok != wantOk || !slices.Equal(got, want) {
		t.Errorf("OrderLibraries(%v, %v): %v, %v; wanted %v, %v", l, needs, got, ok, want, wantOk)
	}
	return ok
}

// pick draws one of a list.
func pick[T any](d *dice, from []T) T {
	return from[d.below(len(from))]
}

// shuffled draws an order.
func shuffled[T any](d *dice, l []T) []T {
	out := slices.Clone(l)
	for at := range out {
		other := at + d.below(len(out)-at)
		out[at], out[other] = out[other], out[at]
	}
	return out
}

var namePool = strings.Fields("a b c aa ab B C car cdr cons - + ... a.b x1 x10 x2 only except prefix rename 1+ /2")

// libraries draws so many good ones.
func (d *dice) libraries(many int) []impl.Library {
	var out []impl.Library
	for _, name := range shuffled(d, namePool)[:many] {
		inners := map[string]string{}
		for range d.below(9) {
			inners[pick(d, namePool)] = pick(d, namePool)
		}
		out = append(out, impl.Library{Name: name, Exports: sortedNames(inners)})
	}
	return out
}

// nameIn draws a name, most often one that is there.
func (d *dice) nameIn(there []string) string {
	if len(there) == 0 || d.below(12) == 0 {
		return pick(d, namePool)
	}
	return pick(d, there)
}

// importSet draws one with so many changes, most often of names that are there.
func (d *dice) importSet(l []impl.Library, changes int) tree {
	if changes == 0 {
		var there []string
		for _, library := range l {
			there = append(there, library.Name)
		}
		return symTree(d.nameIn(there))
	}
	within := d.importSet(l, changes-1)
	inners, _ := modelNames(l, within)
	there := shuffled(d, slices.Sorted(maps.Keys(inners)))
	keyword := pick(d, []string{"only", "except", "prefix", "rename"})
	set := listTree(symTree(keyword), within)
	if keyword == "prefix" {
		set.parts = append(set.parts, symTree(pick(d, []string{"p:", "a", "-", "...", "a-long-prefix-"})))
		return set
	}
	for _, name := range there[:d.below(len(there)+1)] {
		switch {
		case d.below(30) == 0:
			name = d.nameIn(there)
		case keyword == "only" && d.below(4) == 0:
			continue
		}
		part := symTree(name)
		if keyword == "rename" {
			part = listTree(part, symTree(d.newName(there)))
		}
		set.parts = append(set.parts, part)
	}
	return set
}

// newName draws what a name is called, now and then as another one is.
func (d *dice) newName(there []string) string {
	if d.below(4) == 0 {
		return d.nameIn(there)
	}
	return fmt.Sprintf("n%d", d.below(60))
}
