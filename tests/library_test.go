package tests

import (
	"fmt"
	"slices"
	"strings"
	"testing"

	"loop.example/g00201/impl"
)

// goodSymbols and wrongSymbols are texts that are symbols, and that are none.
var (
	goodSymbols = []string{
		"a", "Z", "base", "...", "+", "-", "1+", "1/0", "-a", ".5", "a.b", "@", "!$%&*/:<=>?^_~+-.@", "quote", "only", "rename",
		strings.Repeat("a", 30), strings.Repeat("-", 30),
	}
	wrongSymbols = []string{
		"", ".", "0", "5", "-5", "+5", "1/2", "-1/2", "007", "#t", "#xff", "#", "a b", " a", "a ", "a\n", "(", ")", "()", "'a", "\"a\"",
		"a;", "a,b", "a|b", "[a]", "{", "a\x00", "\xff", "a\x80", "é", "\\", "`", strings.Repeat("a", 31), strings.Repeat("1", 30),
		strings.Repeat("a", 5000),
	}
)

func goodLibrary(t *testing.T, l impl.Library, want bool) {
	t.Helper()
	if impl.GoodLibrary(l) != want || modelGoodLibrary(l) != want {
		t.Errorf("GoodLibrary(%.200q): %v; the model says %v; wanted %v", fmt.Sprint(l), impl.GoodLibrary(l), modelGoodLibrary(l), want)
	}
}

func TestGoodLibrary(t *testing.T) {
	for _, s := range goodSymbols {
		goodLibrary(t, impl.Library{Name: s}, true)
		goodLibrary(t, impl.Library{Name: "a", Exports: []impl.Export{{Inner: s, Outer: "a"}}}, true)
		goodLibrary(t, impl.Library{Name: "a", Exports: []impl.Export{{Inner: "a", Outer: s}}}, true)
	}
	for _, s := range wrongSymbols {
		goodLibrary(t, impl.Library{Name: s}, false)
		goodLibrary(t, impl.Library{Name: s, Exports: namesOf("a b")}, false)
		goodLibrary(t, impl.Library{Name: "a", Exports: []impl.Export{{Inner: s, Outer: "a"}}}, false)
		goodLibrary(t, impl.Library{Name: "a", Exports: []impl.Export{{Inner: "a", Outer: s}}}, false)
		goodLibrary(t, impl.Library{Name: "a", Exports: []impl.Export{{Inner: "a", Outer: "+"}, {Inner: s, Outer: "a"}}}, false)
		goodLibrary(t, impl.Library{Name: "a", Exports: []impl.Export{{Inner: s, Outer: "+"}, {Inner: "a", Outer: "a"}}}, false)
	}
	for _, none := range [][]impl.Export{nil, {}} {
		goodLibrary(t, impl.Library{Name: "a", Exports: none}, true)
		goodLibrary(t, impl.Library{Exports: none}, false)
	}
	for many := range 50 {
		goodLibrary(t, impl.Library{Name: "a", Exports: numberedNames(many)}, many <= impl.MaxNames)
	}
}

// Outers rise by bytes; Inners need not.
func TestGoodLibraryRises(t *testing.T) {
	for _, c := range []struct {
		names string
		want  bool
	}{
		{"a b", true}, {"b a", false}, {"a a", false}, {"a,b a,c", true}, {"b,a a,b", true}, {"x,a y,a", false}, {"a,b b,a", false},
		{"a ab", true}, {"ab a", false}, {"B a", true}, {"a B", false}, {"x1 x10 x2", true}, {"x1 x2 x10", false}, {"! - a ~", true},
		{"+ - ...", true}, {"+ ... -", false}, {"+ - ... /2 a", true}, {"a b c d d", false}, {"a b d c", false}, {"b a c d", false}, {"a a b c", false},
	} {
		goodLibrary(t, impl.Library{Name: "l", Exports: namesOf(strings.Fields(c.names)...)}, c.want)
	}
	// Every one of up to four names.
	for _, l := range listsOf(4, strings.Fields("a b B ab")) {
		rises := slices.IsSorted(l) && len(slices.Compact(slices.Clone(l))) == len(l)
		goodLibrary(t, impl.Library{Name: "l", Exports: namesOf(l...)}, rises)
	}
}

// listsOf are all lists of up to so many of these.
func listsOf[T any](most int, from []T) [][]T {
	out := [][]T{nil}
	last := out
	for range most {
		var longer [][]T
		for _, l := range last {
			for _, one := range from {
				longer = append(longer, append(slices.Clone(l), one))
			}
		}
		out = append(out, longer...)
		last = longer
	}
	return out
}

// baseLibs are libraries that the tables ask. The Names of some of them are those that change import sets.
const baseLibs = "base car cdr kons,cons | empty | only a one,b | prefix a | rename x,a y,b z,c | except b | twins x,a x,b"

var importCases = []struct {
	set  string
	want string
}{
	{"base", "car cdr kons,cons"}, {"empty", ""}, {"only", "a one,b"}, {"prefix", "a"}, {"rename", "x,a y,b z,c"}, {"except", "b"},
	{"(only base car)", "car"}, {"(only base cons car)", "car kons,cons"}, {"(only base)", ""}, {"(only base cons cdr car)", "car cdr kons,cons"},
	{"(only empty)", ""}, {"(only only)", ""}, {"(only only b)", "one,b"}, {"(only prefix a)", "a"}, {"(only except b)", "b"},
	{"(except base car)", "cdr kons,cons"}, {"(except base)", "car cdr kons,cons"}, {"(except base cons cdr car)", ""}, {"(except base cdr)", "car kons,cons"},
	{"(except except)", "b"}, {"(except rename b)", "x,a z,c"}, {"(except empty)", ""}, {"(except except b)", ""},
	{"(prefix base b:)", "car,b:car cdr,b:cdr kons,b:cons"}, {"(prefix empty b:)", ""}, {"(prefix prefix prefix)", "a,prefixa"},
	{"(prefix only -)", "a,-a one,-b"}, {"(prefix (only base car) ...)", "car,...car"},
	{"(rename base (cons pair))", "car cdr kons,pair"}, {"(rename base (car z))", "cdr kons,cons car,z"}, {"(rename base)", "car cdr kons,cons"},
	{"(rename base (cons a) (car d))", "kons,a cdr car,d"}, {"(rename base (car cdr) (cdr car))", "cdr,car car,cdr kons,cons"},
	{"(rename base (cdr car) (car cdr))", "cdr,car car,cdr kons,cons"}, {"(rename base (car cdr) (cdr cons) (cons car))", "kons,car car,cdr cdr,cons"},
	{"(rename base (car car))", "car cdr kons,cons"}, {"(rename base (car cdr) (cdr x))", "car,cdr kons,cons cdr,x"},
	{"(rename rename (a rename) (b only))", "z,c y,only x,rename"}, {"(rename empty)", ""}, {"(rename twins (a b) (b a))", "x,a x,b"},
	{"(prefix (rename base (cons pair)) b:)", "car,b:car cdr,b:cdr kons,b:pair"},
	{"(rename (prefix base b:) (b:cons cons))", "car,b:car cdr,b:cdr kons,cons"},
	{"(rename (rename base (cons pair)) (pair cons))", "car cdr kons,cons"},
	{"(only (except base car) cons)", "kons,cons"}, {"(except (only base car cdr) car)", "cdr"}, {"(only (only base car cdr) cdr)", "cdr"},
	{"(except (except base car) cdr)", "kons,cons"}, {"(prefix (prefix base x) y)", "car,yxcar cdr,yxcdr kons,yxcons"},
	{"(only (rename base (car head)) head)", "car,head"}, {"(rename (except base car) (cdr car))", "cdr,car kons,cons"},
	{"(rename (only base) )", ""}, {"(only (prefix only only) onlya)", "a,onlya"}, {"(rename (prefix (except (only base car cons) car) p) (pcons car))", "kons,car"},
	{"(prefix (except base car cdr cons) as-long-as-a-prefix-may-be----)", ""},
	{" ; a comment\n ( only\tbase\r\n car ; (\n) ;", "car"}, {"base;", "car cdr kons,cons"},
}

func TestImportNames(t *testing.T) {
	l := libsOf(baseLibs)
	for _, c := range importCases {
		imports(t, l, c.set, c.want)
		importAsModel(t, l, c.set)
		importAsModel(t, slices.Concat(l[4:], l[:4]), c.set)
	}
}

// noDatum are texts that are not just one datum.
var noDatum = []string{
	"", " ", ";", "; base", "base base", "base only", "(only base) base", "(only base car) (only base cdr)", "(only base car", "(only base car))", ")", "(",
	"(only base .)", "(only base ,car)", "(only base \xff)", "base\x00", "#base", "[only base car]", "(only base #|car|#)", "\"base", "'", "(only . base car)",
}

// noImportSets are data of other shapes.
var noImportSets = []string{
	"5", "1/2", "-1", "#t", "#f", "\"base\"", "'base", "()", "(base)", "(base car)", "(base base)", "(nix base)", "(nix base car)", "((only base))",
	"((only base) car)", "(only)", "(except)", "(prefix)", "(rename)", "(prefix base)", "(prefix base a b)", "(prefix base a b c)", "(prefix base 5)",
	"(prefix base \"a\")", "(prefix base (a))", "(prefix base ())", "(prefix base #t)", "(prefix base 'a)", "(prefix a: 5)", "(prefix 5 a:)",
	"(prefix base . a)", "(only 5)", "(only \"base\" car)", "(only #t)", "(only ())", "(only (base) car)", "(only (car) base)", "(only (only) car)",
	"(only (nix base) car)", "(only 'base car)", "(only base 5)", "(only base car 5)", "(only base 5 car)", "(only base \"car\")", "(only base (car))",
	"(only base (car cdr))", "(only base ())", "(only base #f)", "(only base 'car)", "(only base . car)", "(only . base)", "(only base car . cdr)",
	"(except base . car)", "(except base 5)", "(except base (car))", "(except base car \"x\")", "(except 5 car)", "(except (except) car)",
	"(rename base . car)", "(rename base car)", "(rename base car head)", "(rename base ())", "(rename base (car))", "(rename base (car head x))",
	"(rename base (car . head))", "(rename base (car head) . x)", "(rename base (5 head))", "(rename base (car 5))", "(rename base (car \"head\"))",
	"(rename base (car (head)))", "(rename base ((car head)))", "(rename base (car head) cdr)", "(rename base (car head) (cdr))",
	"(rename base (car head) ())", "(rename base \"car\")", "(rename base '5)", "(rename 5 (car head))", "(rename (car head) base)",
	"(rename (base) (car head))", "(rename (rename base car) (car head))", "(Only base car)", "(ONLY base)", "(only: base)", "(renames base)",
	"'(only base car)", "(quote base)", "(\"only\" base car)", "(5 base)", "(#t base)",
}

func TestImportForm(t *testing.T) {
	l := libsOf(baseLibs)
	for _, set := range slices.Concat(noDatum, noImportSets) {
		importFails(t, l, set, impl.ImportForm)
		importFails(t, nil, set, impl.ImportForm)
		importAsModel(t, l, set)
	}
	// The shape is looked at ahead of all others, also further without, and within what has another fault.
	for _, set := range noImportSets {
		for _, around := range []string{"(only %s nix)", "(except %s nix)", "(rename %s (nix nox))", "(prefix %s a)", "(rename (only nobody nix) (x 5) %s)"} {
			importFails(t, l, fmt.Sprintf(around, set), impl.ImportForm)
			importAsModel(t, l, fmt.Sprintf(around, set))
		}
	}
	// A word that is no symbol is no name.
	for _, word := range wrongSymbols {
		if word == "" || modelWord.FindString(word) != word {
			continue
		}
		for _, around := range []string{"%s", "(only %s)", "(only base %s)", "(except base %s)", "(prefix base %s)", "(rename base (%s a))", "(rename base (car %s))"} {
			importFails(t, l, fmt.Sprintf(around, word), impl.ImportForm)
		}
	}
	// Of a ' a list of two symbols comes, too.
	importFails(t, l, "(rename base 'car)", impl.ImportName)
	imports(t, libsOf("base quote"), "(rename base 'car)", "quote,car")
}

// Faults of what is asked for, further and further within.
var importFaults = []struct {
	set  string
	want int
}{
	{"nobody", impl.ImportNone}, {"car", impl.ImportNone}, {"Base", impl.ImportNone}, {"bas", impl.ImportNone}, {"basee", impl.ImportNone}, {"kons", impl.ImportNone},
	{"(only nobody)", impl.ImportNone}, {"(only nobody car)", impl.ImportNone}, {"(except nobody)", impl.ImportNone}, {"(prefix nobody a)", impl.ImportNone},
	{"(rename nobody)", impl.ImportNone}, {"(rename nobody (car a) (cdr a))", impl.ImportNone}, {"(only nobody x x)", impl.ImportNone},
	{"(only (except (prefix (rename nobody (a b)) c) d) e)", impl.ImportNone}, {"(prefix nobody as-long-as-a-prefix-may-be----)", impl.ImportNone},
	{"(only base kons)", impl.ImportName}, {"(only base cdr nix)", impl.ImportName}, {"(only base nix cdr)", impl.ImportName}, {"(only base Car)", impl.ImportName},
	{"(only base base)", impl.ImportName}, {"(only empty car)", impl.ImportName}, {"(only base car car)", impl.ImportName}, {"(only base car cdr car)", impl.ImportName},
	{"(except base kons)", impl.ImportName}, {"(except base nix)", impl.ImportName}, {"(except base car car)", impl.ImportName}, {"(except empty car)", impl.ImportName},
	{"(except base car cdr cons car)", impl.ImportName}, {"(rename base (kons a))", impl.ImportName}, {"(rename base (nix a))", impl.ImportName},
	{"(rename base (car a) (car b))", impl.ImportName}, {"(rename base (car a) (car a))", impl.ImportName}, {"(rename base (car a) (a b))", impl.ImportName},
	{"(rename base (car car) (car car))", impl.ImportName}, {"(rename empty (a a))", impl.ImportName}, {"(rename base (nix nix))", impl.ImportName},
	{"(only (only base car) cdr)", impl.ImportName}, {"(only (except base car) car)", impl.ImportName}, {"(except (only base car) cdr)", impl.ImportName},
	{"(only (rename base (car a)) car)", impl.ImportName}, {"(only (prefix base p) car)", impl.ImportName}, {"(rename (prefix base p) (car a))", impl.ImportName},
	{"(prefix base as-long-as-a-prefix-may-be----)", impl.ImportName}, {"(prefix base as-long-as-a-prefix-may-be--)", impl.ImportName},
	{"(rename base (car cdr))", impl.ImportTwice}, {"(rename base (car cons))", impl.ImportTwice}, {"(rename base (car a) (cdr a))", impl.ImportTwice},
	{"(rename base (car a) (cdr b) (cons a))", impl.ImportTwice}, {"(rename base (car cdr) (cdr cons))", impl.ImportTwice}, {"(rename twins (a b))", impl.ImportTwice},
	{"(rename twins (a c) (b c))", impl.ImportTwice}, {"(rename base (car cdr) (cdr cdr))", impl.ImportTwice}, {"(rename (prefix base p) (pcar pcdr))", impl.ImportTwice},
	// Both in one: names that are asked for are looked at ahead of two that are the same.
	{"(rename base (car cdr) (nix a))", impl.ImportName}, {"(rename base (car a) (cdr a) (car b))", impl.ImportName}, {"(rename base (nix cdr))", impl.ImportName},
	// Of two faults that which is further within.
	{"(only (rename base (car cdr)) nix)", impl.ImportTwice}, {"(except (rename base (car cdr)) nix)", impl.ImportTwice},
	{"(rename (rename base (car cdr)) (nix a))", impl.ImportTwice}, {"(prefix (rename base (car cdr)) as-long-as-a-prefix-may-be----)", impl.ImportTwice},
	{"(rename (only base nix) (car a) (cdr a))", impl.ImportName}, {"(rename (except base nix) (car cdr))", impl.ImportName},
	{"(rename (only base car car) (car cdr))", impl.ImportName}, {"(rename (prefix base as-long-as-a-prefix-may-be----) (car cdr))", impl.ImportName},
	{"(only (only (rename base (car cdr)) car car) nix)", impl.ImportTwice}, {"(rename (only (except base nix) nix) (car a) (cdr a))", impl.ImportName},
	{"(rename (only nobody car) (car a) (cdr a))", impl.ImportNone}, {"(only (rename nobody (car cdr)) nix)", impl.ImportNone},
}

func TestImportFaults(t *testing.T) {
	l := libsOf(baseLibs)
	for _, c := range importFaults {
		importFails(t, l, c.set, c.want)
		importAsModel(t, l, c.set)
		for _, around := range []string{"(only %s)", "(except %s)", "(prefix %s a)", "(rename %s)", "(only %s nix)", "(rename %s (nix a))"} {
			importFails(t, l, fmt.Sprintf(around, c.set), c.want)
		}
		importFails(t, nil, c.set, impl.ImportNone)
	}
}
