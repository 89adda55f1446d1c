package tests

import (
	"slices"
	"strings"
	"testing"

	"loop.example/g00201/impl"
)

func TestReadData(t *testing.T) {
	a, b, quote := symTree("a"), symTree("b"), symTree("quote")
	rows := []struct {
		text string
		want []tree
	}{
		{"", nil}, {" ", nil}, {"\t\r\n ", nil}, {"a", []tree{a}}, {" a ", []tree{a}}, {"a b", []tree{a, b}}, {"a\tb\ra\nb", []tree{a, b, a, b}}, {"a\r\nb", []tree{a, b}},
		{"()", []tree{listTree()}}, {"( )", []tree{listTree()}}, {"(a)", []tree{listTree(a)}}, {"(a b)(b)", []tree{listTree(a, b), listTree(b)}}, {"a(b)a", []tree{a, listTree(b), a}}, {"(()())", []tree{listTree(listTree(), listTree())}},
		{"(a . b)", []tree{dottedTree(a, b)}}, {"(a b . a)", []tree{dottedTree(a, b, a)}}, {"((a) . b)", []tree{dottedTree(listTree(a), b)}}, {"(() .\n#f )", []tree{dottedTree(listTree(), boolTree("f"))}},
		{`(a ."b")`, []tree{dottedTree(a, strTree("b"))}}, {`("b". a)`, []tree{dottedTree(strTree("b"), a)}}, {"(().a)", []tree{listTree(listTree(), symTree(".a"))}}, {"(a .b)", []tree{listTree(a, symTree(".b"))}},
		{"(a. b)", []tree{listTree(symTree("a."), b)}}, {"(a . -1/2)", []tree{dottedTree(a, numTree("-1/2"))}}, {"('a . b)", []tree{dottedTree(listTree(quote, a), b)}}, {"((a . b))", []tree{listTree(dottedTree(a, b))}},
		{"'a", []tree{listTree(quote, a)}}, {"' a", []tree{listTree(quote, a)}}, {"';c\n a", []tree{listTree(quote, a)}}, {"''a", []tree{listTree(quote, listTree(quote, a))}}, {"'()", []tree{listTree(quote, listTree())}}, {"'a b", []tree{listTree(quote, a), b}},
		{"a'b", []tree{a, listTree(quote, b)}}, {"('a'b)", []tree{listTree(listTree(quote, a), listTree(quote, b))}}, {"'(a . b)", []tree{listTree(quote, dottedTree(a, b))}}, {"'1", []tree{listTree(quote, numTree("1"))}}, {`'"a"`, []tree{listTree(quote, strTree("a"))}}, {"'#t", []tree{listTree(quote, boolTree("t"))}},
		{"(quote a)", []tree{listTree(quote, a)}}, {"'quote", []tree{listTree(quote, quote)}},
		{"#t #true #f #false", []tree{boolTree("t"), boolTree("t"), boolTree("f"), boolTree("f")}}, {"(#t)#f'#t", []tree{listTree(boolTree("t")), boolTree("f"), listTree(quote, boolTree("t"))}},
	}
	for _, r := range rows {
		readTold(t, r.text, r.want)
	}
}

func TestReadDataOfWords(t *testing.T) {
	for text, want := range map[string]string{
		"0": "0", "-0": "0", "+7": "7", "007": "7", "-7": "-7", "2/4": "1/2", "-004/002": "-2", "#x1A": "26", "#xff/2": "255/2", "#b-101": "-5", "#o17": "15", "#d9": "9", nines(600): nines(600), "-1/" + nines(600): "-1/" + nines(600),
		"#x" + strings.Repeat("F", 600) + "/" + strings.Repeat("F", 600): "1", strings.Repeat("0", 599) + "1": "1",
	} {
		readTold(t, text, []tree{numTree(want)})
		readTold(t, "("+text+")", []tree{listTree(numTree(want))})
	}
	for _, text := range []string{"+", "-", "..", "...", ".5", "1.5", "1+", "-a", "1/0", "-1/0", "1/", "/1", "1//2", "1/2/3", "t", "f", "true", "quote", "a.b", "x", "call/cc", "@", strings.Repeat("z", 30), strings.Repeat("1", 29) + "x"} {
		readTold(t, text, []tree{symTree(text)})
		readTold(t, "("+text+")", []tree{listTree(symTree(text))})
	}
	wrong := []string{
		"#", "#a", "#T", "#F", "#TRUE", "#tt", "#ff", "#tru", "#truee", "#fals", "#t#f", "#t.", "##t", "#x", "#x-", "#xg", "#b2", "#o8", "#da", "#x1/0", "#X1", "#\\a", "a#", "a#t", "1#",
		",", "`a", "a,b", "[a]", "{", "}", "a|b", "a\\b", "\\", "\x00", "a\x00", "\x0b", "\x0c", "a\x0bb", "\x7f", "\x80", "\xff", "a\xffb", "é", "a\u00a0b", "\u2003", "\ufeffa",
		strings.Repeat("a", 31), strings.Repeat("0", 601), one(600), "#x" + strings.Repeat("F", 600), strings.Repeat("-", 31),
	}
	for _, text := range wrong {
		for _, s := range []string{text, " " + text, text + " ", "(" + text + ")", "(" + text, "'" + text, "a " + text + " a", "(a . " + text + ")", text + "\n)"} {
			readFails(t, s, impl.ReadForm)
		}
	}
}

func TestReadDataOfStrings(t *testing.T) {
	for text, want := range map[string]string{
		`""`: "", `"a"`: "a", `" "`: " ", `"\""`: `"`, `"\\"`: `\`, `"\n"`: "\n", "\"\n\"": "\n", `"\\n"`: `\n`, `"\\\""`: `\"`, `"a;b"`: "a;b", `"(a)"`: "(a)", `"'"`: "'", `"#t"`: "#t", `"."`: ".", `"~"`: "~",
		`"` + strings.Repeat("a", 100) + `"`: strings.Repeat("a", 100), `"` + strings.Repeat(`\"`, 100) + `"`: strings.Repeat(`"`, 100), `"` + strings.Repeat(`\n`, 100) + `"`: strings.Repeat("\n", 100), `"` + strings.Repeat("\n", 100) + `"`: strings.Repeat("\n", 100),
	} {
		readTold(t, text, []tree{strTree(want)})
		readTold(t, "(a"+text+"b)", []tree{listTree(symTree("a"), strTree(want), symTree("b"))})
		readTold(t, text+text, []tree{strTree(want), strTree(want)})
	}
	for c := range 256 {
		text := string([]byte{byte(c)})
		switch {
		case c == '"' || c == '\\':
			continue
		case c == 10 || c >= 32 && c <= 126:
			readTold(t, `"a`+text+`b"`, []tree{strTree("a" + text + "b")})
		default:
			readFails(t, `"a`+text+`b"`, impl.ReadForm)
			readFails(t, `"a`+text, impl.ReadForm)
		}
		if c != 'n' {
			readFails(t, `"a\`+text+`b"`, impl.ReadForm)
			readFails(t, `"\`+text, impl.ReadForm)
		}
	}
	for _, full := range []string{strings.Repeat("a", 100), strings.Repeat(`\\`, 100), strings.Repeat("a", 99) + `\n`} {
		for _, over := range []string{"a", `\"`, `\\`, `\n`, "\n", "\x00", `\x`} {
			readFails(t, `"`+full+over+`"`, impl.ReadForm)
			readFails(t, `"`+full+over, impl.ReadForm)
		}
		readFails(t, `"`+full, impl.ReadShort)
	}
}

func TestReadDataOfComments(t *testing.T) {
	a, b := symTree("a"), symTree("b")
	for text, want := range map[string][]tree{
		";": nil, ";a": nil, "; a\n": nil, ";;;": nil, ";\n;\n": nil, "a;b": {a}, "a;b\nb": {a, b}, "a ; ( \" ' . #z \x00\xff\n b": {a, b}, ";a\rb\na": {a}, ";\r\na": {a}, "(a;)\nb)": {listTree(a, b)}, "(a . ; )\n b ; c\n)": {dottedTree(a, b)},
		"(;\n)": {listTree()}, "\";a\"": {strTree(";a")}, "a;;\n;b\nb;": {a, b}, "#t;": {boolTree("t")}, "1;\n2": {numTree("1"), numTree("2")}, ";a\n;b": nil,
	} {
		readTold(t, text, want)
	}
	readFails(t, "(a;)", impl.ReadShort)
	readFails(t, "';a", impl.ReadShort)
	readFails(t, "\";a\n", impl.ReadShort)
	readFails(t, "(a . b;)\n", impl.ReadShort)
	readFails(t, ";\n)", impl.ReadForm)
}

// What lacks, what may not stand there, and which of several is met first.
func TestReadDataFaults(t *testing.T) {
	for want, texts := range map[string][]string{
		"short": {
			"(", "(a", "((a)", "(a . b", "(a .", "(a . ", "(a .;", "'", "' ", "a '", "('", "('a", "''", "(a . b ", "\"", "\"a", "\"a\\", "\"\\\"", "(\"", "(a \"b\\", "(a \"b)", "'(", "'\"", "(() (", "(a (b . c)", "(a . \"", "(a . \"b",
		},
		"form": {
			")", "a)", "())", "(a))", "')", "' )", "(')", "(a ')", "'')", "(a . b))",
			".", " .", ". a", "a .", "a . b", "(.", "(. a)", "(.)", "( . a)", "(a .)", "(a . )", "(a . b c)", "(a . b . c)", "(a . . b)", "(a . b .)", "(. . a)", "(a (. b))", "(() . b c)", "'.", "'. a", "(a '. b)", "('. a)", "('a . . b)",
			"(a . ())", "(a . (b))", "(a . (b . c))", "(a . 'b)", "(a . '())", "(a . b 'c)", "(a . b (c))", "(a . b \"c\")", "(a . b #t)", "(a . b 1)",
			// More than one fault.
			") (", "(a) ) (", "#z (", "(#z", "(a #z", "'#z", "\"\x00", "\"\\a", "(. ", "(. (", "(a . (", "(a . '", "(a . b c", "(a . b (", "(a . b '", "(a . b \"", "(a . b .", "(a . .", "(a . )", "(a . #z", ". (", "') (", "(a . (b \"", "#z \"", "(a . b)) \"", "\"" + strings.Repeat("a", 101),
			") " + strings.Repeat("a ", 301), "#z " + strings.Repeat("(", 26), "(a . " + strings.Repeat("(", 26), ". " + strings.Repeat("'", 26), strings.Repeat("a ", 300) + ")", strings.Repeat("a ", 299) + "#z a a", strings.Repeat("a ", 300) + "#z", strings.Repeat("a ", 300) + ".", strings.Repeat("(", 25) + ". (", strings.Repeat("(", 25) + "#z (",
		},
		"many": {
			strings.Repeat("(", 26), strings.Repeat("'", 26), strings.Repeat("(", 25) + "'", strings.Repeat("'", 25) + "(", strings.Repeat("(", 26) + ")", strings.Repeat("('", 13), strings.Repeat("(", 26) + "#z", strings.Repeat("(", 26) + "\"",
			strings.Repeat("(", 25) + "a (", strings.Repeat("a ", 301), strings.Repeat("a ", 301) + ")", strings.Repeat("a ", 301) + "\"", strings.Repeat("a ", 301) + "(", strings.Repeat("a ", 301) + "#z", strings.Repeat("a ", 301) + ".",
			strings.Repeat("a ", 300) + "(", strings.Repeat("a ", 300) + "'", strings.Repeat("a ", 299) + "'", strings.Repeat("a ", 298) + "'a", strings.Repeat("a ", 300) + "\"\"", strings.Repeat("a ", 300) + "1", strings.Repeat("a ", 300) + "#f", "(" + strings.Repeat("a ", 300), "(" + strings.Repeat("a ", 299) + ". a)", strings.Repeat("()", 301), strings.Repeat("a ", 299) + "(a",
		},
	} {
		for _, text := range texts {
			readFails(t, text, codes[want])
		}
	}
}

func TestReadDataLimits(t *testing.T) {
	a := symTree("a")
	quote := func(inner tree) tree { return listTree(symTree("quote"), inner) }
	readTold(t, strings.Repeat("a ", 300), symbols(300))
	readTold(t, strings.Repeat("()", 300), slices.Repeat([]tree{listTree()}, 300))
	readTold(t, "("+strings.Repeat("a ", 299)+")", []tree{listTree(symbols(299)...)})
	readTold(t, "("+strings.Repeat("a ", 298)+". a)", []tree{dottedTree(symbols(299)...)})
	readTold(t, strings.Repeat("'a", 100), slices.Repeat([]tree{quote(a)}, 100))
	readTold(t, strings.Repeat("a ", 297)+"'a", append(symbols(297), quote(a)))
	readTold(t, strings.Repeat("a ", 300)+"; a", symbols(300))
	readTold(t, strings.Repeat("(", 25)+strings.Repeat(")", 25), nested(25))
	readTold(t, strings.Repeat("(", 25)+"a a"+strings.Repeat(")", 25), nested(25, a, a))
	readTold(t, strings.Repeat("(", 24)+"'a ()"+strings.Repeat(")", 24), nested(24, quote(a), listTree()))
	deep := a
	for range 25 {
		deep = quote(deep)
	}
	readTold(t, strings.Repeat("'", 25)+"a", []tree{deep})
	readTold(t, strings.Repeat("'", 25)+"a"+strings.Repeat("'", 25)+"a", []tree{deep, deep})

	readTold(t, strings.Repeat(" ", 1500), nil)
	readTold(t, ";"+strings.Repeat("(", 1499), nil)
	readTold(t, "a"+strings.Repeat(" ", 1499), []tree{a})
	readTold(t, strings.Repeat(" ", 1499)+"a", []tree{a})
	readFails(t, strings.Repeat(" ", 1501), impl.ReadLong)
	readFails(t, "a"+strings.Repeat(" ", 1500), impl.ReadLong)
	// A text that is too long has no other fault.
	for _, text := range []string{")", "(", "'", "\"", "#z", ".", strings.Repeat("(", 26), strings.Repeat("a ", 301)} {
		readFails(t, text+strings.Repeat(" ", 1501-len(text)), impl.ReadLong)
		readFails(t, strings.Repeat(" ", 1501-len(text))+text, impl.ReadLong)
		readFails(t, strings.Repeat(text, 1501), impl.ReadLong)
		if _, code := impl.ReadData(text + strings.Repeat(" ", 1500-len(text))); code == impl.ReadLong || code == impl.ReadOk {
			t.Errorf("%q and blanks up to 1500: code %d", short(text), code)
		}
	}
}

// However data are written, they are the same.
func TestReadDataSpelledOtherwise(t *testing.T) {
	d := &dice{state: 37}
	blank := func() string {
		return []string{" ", "  ", "\t", "\n", "\r\n", " ; ) ( \" '\n", ";\n", "\n;;.\n "}[d.below(8)]
	}
	leaf := func(p tree) string {
		switch p.kind {
		case impl.DatumBool:
			return []string{"#" + p.text, map[string]string{"t": "#true", "f": "#false"}[p.text]}[d.below(2)]
		case impl.DatumNum:
			hex, _ := impl.NumText(p.text, 16)
			return []string{p.text, "#d" + p.text, "#x" + hex, "#x" + strings.ToUpper(hex)}[d.below(4)]
		case impl.DatumStr:
			newline := []string{`\n`, "\n"}[d.below(2)]
			return `"` + strings.NewReplacer(`"`, `\"`, `\`, `\\`, "\n", newline).Replace(p.text) + `"`
		}
		return p.text
	}
	for _, f := range forests() {
		if text := blank() + spelled(f, blank, leaf) + blank(); len(text) <= 1500 {
			readTold(t, text, f)
		}
	}
}

// What is read is good data, and comes back from its text.
func TestReadDataAreGood(t *testing.T) {
	d := &dice{state: 41}
	read := map[int]int{}
	for range 150000 {
		var text strings.Builder
		for range d.below(12) {
			text.WriteString([]string{"(", "(", ")", ")", " ", " . ", "'", "a", "1", "-2/4", "#t", "#false", "\"", "\\", ";", "\n", "n", "."}[d.below(18)])
		}
		code := readAsModel(t, text.String())
		read[code]++
		if code == impl.ReadOk {
			comesBack(t, text.String())
		}
	}
	for _, code := range []int{impl.ReadOk, impl.ReadShort, impl.ReadForm} {
		if read[code] < 5000 {
			t.Error("code", code, "came up only", read[code], "times")
		}
	}
}

// comesBack reads a text without a fault, tells what was read, and reads that.
func comesBack(t *testing.T, text string) {
	t.Helper()
	l, _ := impl.ReadData(text)
	if !impl.GoodData(l) {
		t.Errorf("%q is read as %v, which are no good data", text, l)
	}
	told, ok := impl.DataText(l)
	if !ok {
		t.Errorf("DataText of %q is refused", text)
	}
	again, code := impl.ReadData(told)
	if same, ok := impl.SameData(l, again); code != impl.ReadOk || !same || !ok {
		t.Errorf("%q is told as %q, and read as %v, %d", text, told, again, code)
	}
}

// Near the limits of nodes and of lists around each other the first fault is told, too.
func TestReadDataNearLimits(t *testing.T) {
	t.Parallel()
	d := &dice{state: 43}
	read := map[int]int{}
	for range 20000 {
		var text strings.Builder
		if d.below(2) == 0 {
			for range 22 + d.below(4) {
				text.WriteString([]string{"(", "'", "(a "}[d.below(3)])
			}
		} else {
			text.WriteString([]string{"", "(", "'("}[d.below(3)] + strings.Repeat("a ", 294+d.below(7)))
		}
		for range d.below(10) {
			text.WriteString([]string{"(", ")", " ", " . ", "'", "a", "\"b\"", "\"", "#z", "\n"}[d.below(10)])
		}
		if d.below(2) == 0 {
			text.WriteString(strings.Repeat(")", d.below(30)))
		}
		read[readAsModel(t, text.String())]++
	}
	for _, code := range []int{impl.ReadOk, impl.ReadShort, impl.ReadForm, impl.ReadMany} {
		if read[code] < 300 {
			t.Error("code", code, "came up only", read[code], "times")
		}
	}
}

// Data whose text is longer than what they were read from are good, and have no text.
func TestReadDataWithoutText(t *testing.T) {
	text := strings.Repeat("'"+strings.Repeat("a", 30), 45)
	l, code := impl.ReadData(text)
	if code != impl.ReadOk || len(l) != 135 || !impl.GoodData(l) {
		t.Errorf("%q: %d nodes, code %d", short(text), len(l), code)
	}
	got, ok := impl.DataText(l)
	refused(t, "DataText", got, ok)
}
