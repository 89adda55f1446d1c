package tests

import (
	"math/big"
	"slices"
	"strings"
)

// tool is a primitive of the model: how many values it takes (-1: any more), their kinds, the last one being that of
// all others, and what it does. Kinds are n(umber), w(hole), p(air), l(ist), f(unction) and anything.
type tool struct {
	name  string
	least int
	most  int
	kinds string
	does  func(m *stepModel, a []any) any
}

var tools = []tool{
	{"+", 0, -1, "n", func(_ *stepModel, a []any) any { return folded(big.NewRat(0, 1), a, (*big.Rat).Add) }},
	{"*", 0, -1, "n", func(_ *stepModel, a []any) any { return folded(big.NewRat(1, 1), a, (*big.Rat).Mul) }},
	{"-", 1, -1, "n", func(_ *stepModel, a []any) any {
		if len(a) == 1 {
			return folded(big.NewRat(0, 1), a, (*big.Rat).Sub)
		}
		return folded(ratIn(a[0]), a[1:], (*big.Rat).Sub)
	}},
	{"/", 1, -1, "n", func(_ *stepModel, a []any) any {
		if len(a) == 1 {
			a = []any{big.NewRat(1, 1), a[0]}
		}
		for _, v := range a[1:] {
			notNought(v)
		}
		return folded(ratIn(a[0]), a[1:], (*big.Rat).Quo)
	}},
	{"=", 1, -1, "n", ordered(0)},
	{"<", 1, -1, "n", ordered(-1)},
	{">", 1, -1, "n", ordered(1)},
	{"<=", 1, -1, "n", ordered(-1, 0)},
	{">=", 1, -1, "n", ordered(0, 1)},
	{"quotient", 2, 2, "w", func(_ *stepModel, a []any) any {
		notNought(a[1])
		return new(big.Rat).SetInt(new(big.Int).Quo(ratIn(a[0]).Num(), ratIn(a[1]).Num()))
	}},
	{"remainder", 2, 2, "w", func(_ *stepModel, a []any) any {
		notNought(a[1])
		return new(big.Rat).SetInt(new(big.Int).Rem(ratIn(a[0]).Num(), ratIn(a[1]).Num()))
	}},
	{"floor", 1, 1, "n", func(_ *stepModel, a []any) any {
		// The bottom is above 0, so Euclid's quotient is the one that goes down.
		return new(big.Rat).SetInt(new(big.Int).Div(ratIn(a[0]).Num(), ratIn(a[0]).Denom()))
	}},
	{"cons", 2, 2, "-", func(m *stepModel, a []any) any { return m.list(a[:1], a[1]) }},
	{"car", 1, 1, "p", func(_ *stepModel, a []any) any { return a[0].(*cell).first }},
	{"cdr", 1, 1, "p", func(_ *stepModel, a []any) any { return a[0].(*cell).second }},
	{"list", 0, -1, "-", func(m *stepModel, a []any) any { return m.list(a, emptyValue) }},
	{"null?", 1, 1, "-", func(_ *stepModel, a []any) any { return a[0] == emptyValue }},
	{"pair?", 1, 1, "-", func(_ *stepModel, a []any) any { return isOf('p', a[0]) }},
	{"number?", 1, 1, "-", func(_ *stepModel, a []any) any { return isOf('n', a[0]) }},
	{"symbol?", 1, 1, "-", func(_ *stepModel, a []any) any { return isOf('s', a[0]) }},
	{"string?", 1, 1, "-", func(_ *stepModel, a []any) any { return isOf('t', a[0]) }},
	{"boolean?", 1, 1, "-", func(_ *stepModel, a []any) any { return a[0] == true || a[0] == false }},
	{"procedure?", 1, 1, "-", func(_ *stepModel, a []any) any { return isOf('f', a[0]) }},
	{"not", 1, 1, "-", func(_ *stepModel, a []any) any { return a[0] == false }},
	{"eq?", 2, 2, "-", func(_ *stepModel, a []any) any { return isSame(a[0], a[1]) }},
	{"equal?", 2, 2, "-", func(m *stepModel, a []any) any { return m.likeness(a[0], a[1]) }},
	{"length", 1, 1, "l", func(_ *stepModel, a []any) any { return big.NewRat(int64(len(inList(a[0]))), 1) }},
	{"append", 2, 2, "l-", func(m *stepModel, a []any) any { return m.list(inList(a[0]), a[1]) }},
	{"reverse", 1, 1, "l", func(m *stepModel, a []any) any {
		l := inList(a[0])
		slices.Reverse(l)
		return m.list(l, emptyValue)
	}},
	{"display", 1, 1, "-", func(m *stepModel, a []any) any { return m.telling(m.show(a[0], true)) }},
	{"write", 1, 1, "-", func(m *stepModel, a []any) any { return m.telling(m.show(a[0], false)) }},
	{"newline", 0, 0, "-", func(m *stepModel, _ []any) any { return m.telling("\n") }},
	{"apply", 2, 2, "fl", nil},
	{"call/cc", 1, 1, "f", nil},
}

func (m *stepModel) makeTools() map[string]*doer {
	out := map[string]*doer{}
	for _, tool := range tools {
		out[tool.name] = &doer{func(args []any, then *done) jump {
			tool.check(args)
			switch tool.name {
			case "apply":
				return args[0].(*doer).call(inList(args[1]), then)
			case "call/cc":
				return args[0].(*doer).call([]any{m.back(then)}, then)
			}
			return m.give(tool.does(m, args), then)
		}}
	}
	return out
}

// back is the procedure that goes on from somewhere.
func (m *stepModel) back(then *done) *doer {
	return &doer{func(args []any, _ *done) jump {
		if len(args) != 1 {
			panic(modelFault("arity"))
		}
		return m.give(args[0], then)
	}}
}

func (t tool) check(args []any) {
	if len(args) < t.least || t.most >= 0 && len(args) > t.most {
		panic(modelFault("arity"))
	}
	for at, v := range args {
		if !isOf(t.kinds[min(at, len(t.kinds)-1)], v) {
			panic(modelFault("type"))
		}
	}
}

func isOf(kind byte, v any) bool {
	is := false
	switch kind {
	case 'n':
		_, is = v.(*big.Rat)
	case 'w':
		n, ok := v.(*big.Rat)
		is = ok && n.IsInt()
	case 's':
		_, is = v.(word)
	case 't':
		_, is = v.(string)
	case 'p':
		_, is = v.(*cell)
	case 'f':
		_, is = v.(*doer)
	case 'l':
		for p, ok := v.(*cell); ok; p, ok = v.(*cell) {
			v = p.second
		}
		is = v == emptyValue
	default:
		is = true
	}
	return is
}

func ratIn(v any) *big.Rat { return v.(*big.Rat) }

func notNought(v any) {
	if ratIn(v).Sign() == 0 {
		panic(modelFault("divide"))
	}
}

func folded(start *big.Rat, others []any, by func(z *big.Rat, x *big.Rat, y *big.Rat) *big.Rat) any {
	for _, v := range others {
		start = by(new(big.Rat), start, ratIn(v))
		for _, digits := range strings.Split(strings.TrimPrefix(start.RatString(), "-"), "/") {
			if len(digits) > 600 {
				panic(modelFault("number"))
			}
		}
	}
	return start
}

func ordered(orders ...int) func(m *stepModel, a []any) any {
	return func(_ *stepModel, a []any) any {
		for at := 1; at < len(a); at++ {
			if !slices.Contains(orders, ratIn(a[at-1]).Cmp(ratIn(a[at]))) {
				return false
			}
		}
		return true
	}
}

func inList(v any) []any {
	var out []any
	for p, ok := v.(*cell); ok; p, ok = v.(*cell) {
		out = append(out, p.first)
		v = p.second
	}
	return out
}

func (m *stepModel) telling(text string) any {
	m.tell(text)
	return noneValue
}
