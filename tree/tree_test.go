package tree

import (
	"math"
	"slices"
	"strings"
	"testing"
	"unsafe"

	"midstream/api"
	"midstream/lex"
)

func num(n int32) api.Expr { return api.Expr{Kind: api.ENum, N: n} }

func truth(n int32) api.Expr { return api.Expr{Kind: api.EBool, N: n} }

func variable(s string) api.Expr { return api.Expr{Kind: api.EVar, Name: s} }

func un(op int32, e api.Expr) api.Expr {
	return api.Expr{Kind: api.EUn, N: op, Sub: []api.Expr{e}}
}

func bin(op int32, a, b api.Expr) api.Expr {
	return api.Expr{Kind: api.EBin, N: op, Sub: []api.Expr{a, b}}
}

func arrow(a, b api.Expr) api.Expr {
	return api.Expr{Kind: api.EArrow, Sub: []api.Expr{a, b}}
}

func choose(a, b, c api.Expr) api.Expr {
	return api.Expr{Kind: api.EIf, Sub: []api.Expr{a, b, c}}
}

func when(e api.Expr, s string) api.Expr {
	return api.Expr{Kind: api.EWhen, Name: s, Sub: []api.Expr{e}}
}

func unless(e api.Expr, s string) api.Expr {
	return api.Expr{Kind: api.EUnless, Name: s, Sub: []api.Expr{e}}
}

func merge(s string, a, b api.Expr) api.Expr {
	return api.Expr{Kind: api.EMerge, Name: s, Sub: []api.Expr{a, b}}
}

// marks are those of the operations of two values, by their numbers.
func marks() []string {
	return []string{"", "+", "-", "*", "/", "%", "<<", ">>", "&", "|", "^", "=", "<>", "<", "<=", ">", ">="}
}

// scanned are the tokens of a text that has some.
func scanned(t *testing.T, s string) []api.Token {
	t.Helper()
	l, e, at := lex.Scan(s)
	if e != api.OK {
		t.Fatalf("Scan(%q): %d, %d", s, e, at)
	}
	return l
}

// parses wants the whole text to be that expression.
func parses(t *testing.T, s string, want api.Expr) {
	t.Helper()
	l := scanned(t, s)
	x, n, e, at := Expr(l, 0, len(s))
	if e != api.OK || n != len(l) || at != 0 || !SameExpr(x, want) {
		t.Fatalf("Expr(%q) = %v, %d, %d, %d, want %v, %d, 0, 0", s, x, n, e, at, want, len(l))
	}
}

// shows wants the expression to have that text, which is that of the expression again.
func shows(t *testing.T, x api.Expr, want string) {
	t.Helper()
	s, e := Show(x)
	if e != api.OK || s != want {
		t.Fatalf("Show(%v) = %q, %d, want %q", x, s, e, want)
	}
	parses(t, s, x)
}

func a() api.Expr { return variable("a") }
func b() api.Expr { return variable("b") }
func c() api.Expr { return variable("c") }

// P13.2: the syntax tree of each form.
func TestExprForms(t *testing.T) {
	for s, want := range map[string]api.Expr{
		"0":                        num(0),
		"2147483647":               num(math.MaxInt32),
		"true":                     truth(1),
		"false":                    truth(0),
		"a":                        a(),
		"a_1":                      variable("a_1"),
		"(a)":                      a(),
		"((((a))))":                a(),
		"-a":                       un(api.UnNeg, a()),
		"-5":                       un(api.UnNeg, num(5)),
		"- - 5":                    un(api.UnNeg, un(api.UnNeg, num(5))),
		"not a":                    un(api.UnNot, a()),
		"not - not a":              un(api.UnNot, un(api.UnNeg, un(api.UnNot, a()))),
		"if a then b else c":       choose(a(), b(), c()),
		"a -> b":                   arrow(a(), b()),
		"a when b":                 when(a(), "b"),
		"a unless b":               unless(a(), "b"),
		"a when b unless c when a": when(unless(when(a(), "b"), "c"), "a"),
		"merge a b c":              merge("a", b(), c()),
		"merge a (b) (c)":          merge("a", b(), c()),
		"merge a 1 true":           merge("a", num(1), truth(1)),
	} {
		parses(t, s, want)
	}
	for op, mark := range marks() {
		if op > 0 {
			parses(t, "a"+mark+"b", bin(int32(op), a(), b()))
		}
	}
}

// P13.2: what binds more tightly, and to which side.
func TestExprBinding(t *testing.T) {
	const or, and, less, shl, add, mul, sub, div = api.OpOr, api.OpAnd, api.OpLt, api.OpShl, api.OpAdd, api.OpMul, api.OpSub, api.OpDiv
	for s, want := range map[string]api.Expr{
		"a + b * c":                     bin(add, a(), bin(mul, b(), c())),
		"a * b + c":                     bin(add, bin(mul, a(), b()), c()),
		"a -> b -> c":                   arrow(a(), arrow(b(), c())),
		"(a -> b) -> c":                 arrow(arrow(a(), b()), c()),
		"a | b -> c":                    arrow(bin(or, a(), b()), c()),
		"a - b - c":                     bin(sub, bin(sub, a(), b()), c()),
		"a - (b - c)":                   bin(sub, a(), bin(sub, b(), c())),
		"a / b * c % a":                 bin(api.OpRem, bin(mul, bin(div, a(), b()), c()), a()),
		"a | b ^ c | a":                 bin(or, bin(api.OpXor, bin(or, a(), b()), c()), a()),
		"a << b >> c":                   bin(api.OpShr, bin(shl, a(), b()), c()),
		"a | b & c < a << b + c * a":    bin(or, a(), bin(and, b(), bin(less, c(), bin(shl, a(), bin(add, b(), bin(mul, c(), a())))))),
		"a * b + c << a < b & c | a":    bin(or, bin(and, bin(less, bin(shl, bin(add, bin(mul, a(), b()), c()), a()), b()), c()), a()),
		"a < b & b < c":                 bin(and, bin(less, a(), b()), bin(less, b(), c())),
		"(a < b) < c":                   bin(less, bin(less, a(), b()), c()),
		"a = b | a <> c":                bin(or, bin(api.OpEq, a(), b()), bin(api.OpNe, a(), c())),
		"-a * b":                        bin(mul, un(api.UnNeg, a()), b()),
		"a * -b":                        bin(mul, a(), un(api.UnNeg, b())),
		"a - -b":                        bin(sub, a(), un(api.UnNeg, b())),
		"not a = b":                     bin(api.OpEq, un(api.UnNot, a()), b()),
		"-a when b":                     un(api.UnNeg, when(a(), "b")),
		"(-a) when b":                   when(un(api.UnNeg, a()), "b"),
		"a + b when c":                  bin(add, a(), when(b(), "c")),
		"(a + b) when c":                when(bin(add, a(), b()), "c"),
		"if a then b else c + a":        choose(a(), b(), bin(add, c(), a())),
		"if a then b else c -> a":       choose(a(), b(), arrow(c(), a())),
		"if a then b else c when a":     choose(a(), b(), when(c(), "a")),
		"(if a then b else c) + a":      bin(add, choose(a(), b(), c()), a()),
		"a + if a then b else c + a":    bin(add, a(), choose(a(), b(), bin(add, c(), a()))),
		"- if a then b else c":          un(api.UnNeg, choose(a(), b(), c())),
		"if a -> b then b -> c else a":  choose(arrow(a(), b()), arrow(b(), c()), a()),
		"merge a b c when a":            merge("a", b(), when(c(), "a")),
		"merge a b when a c":            merge("a", when(b(), "a"), c()),
		"(merge a b c) when a":          when(merge("a", b(), c()), "a"),
		"merge a b c + a":               bin(add, merge("a", b(), c()), a()),
		"merge a b c < a":               bin(less, merge("a", b(), c()), a()),
		"merge a merge b a b c":         merge("a", merge("b", a(), b()), c()),
		"merge a if a then b else c b":  merge("a", choose(a(), b(), c()), b()),
		"merge a b if a then b else -c": merge("a", b(), choose(a(), b(), un(api.UnNeg, c()))),
		// The else part takes the first comparison, behind which only the outer expression can take one.
		"if a then b else c < a < b": bin(less, choose(a(), b(), bin(less, c(), a())), b()),
	} {
		parses(t, s, want)
	}
}

// P13.2: where an expression ends, or can't continue.
func TestExprPlaces(t *testing.T) {
	for _, c := range []struct {
		s  string
		at int
		n  int
		e  api.Errno
		to int
	}{
		{s: "a b", n: 1},
		{s: "a b", at: 1, n: 2},
		{s: "a b", at: 2, e: api.ErrToken, to: 77},
		{s: "a b", at: 3, e: api.ErrArg},
		{s: "a b", at: -1, e: api.ErrArg},
		{s: "a b", at: math.MaxInt, e: api.ErrArg},
		{s: "a b", at: math.MinInt, e: api.ErrArg},
		{s: "", e: api.ErrToken, to: 77},
		{s: "", at: 1, e: api.ErrArg},
		{s: "a + )", e: api.ErrToken, to: 4},
		{s: "a +", e: api.ErrToken, to: 77},
		{s: "a < b < c", n: 3},
		{s: "a < b = c", n: 3},
		{s: "a -> b; c", n: 3},
		{s: "a when", e: api.ErrToken, to: 77},
		{s: "a when 5", e: api.ErrToken, to: 7},
		{s: "a when when", e: api.ErrToken, to: 7},
		{s: "(a", e: api.ErrToken, to: 77},
		{s: "(a b)", e: api.ErrToken, to: 3},
		{s: "()", e: api.ErrToken, to: 1},
		{s: "a)", n: 1},
		{s: "if a then b", e: api.ErrToken, to: 77},
		{s: "if a b", e: api.ErrToken, to: 5},
		{s: "if a then b c", e: api.ErrToken, to: 12},
		{s: "if a then b else tel", e: api.ErrToken, to: 17},
		{s: "merge (a) b c", e: api.ErrToken, to: 6},
		{s: "merge a b -c", e: api.ErrToken, to: 10},
		{s: "merge a not b c", e: api.ErrToken, to: 8},
		{s: "merge a b", e: api.ErrToken, to: 77},
		{s: "merge a b c d", n: 4},
		{s: "not", e: api.ErrToken, to: 77},
		{s: "then", e: api.ErrToken},
		{s: "pre a", e: api.ErrToken},
		{s: "5 fby a", n: 1},
		{s: "-5 fby a", n: 2},
		{s: "a -> pre b", e: api.ErrToken, to: 5},
		{s: "+a", e: api.ErrToken},
		{s: "int", e: api.ErrToken},
		{s: "a : int", n: 1},
	} {
		x, n, e, to := Expr(scanned(t, c.s), c.at, 77)
		if n != c.n || e != c.e || to != c.to || e != api.OK && !SameExpr(x, api.Expr{}) {
			t.Errorf("Expr(%q, %d) = %v, %d, %d, %d, want %d, %d, %d", c.s, c.at, x, n, e, to, c.n, c.e, c.to)
		}
	}
	for _, end := range []int{0, -1, math.MinInt, math.MaxInt} {
		if _, n, e, at := Expr(nil, 0, end); n != 0 || e != api.ErrToken || at != end {
			t.Error(end, n, e, at)
		}
	}
}

// P13.2: the tokens are those that are passed, whatever lex.Scan would make of their texts.
func TestExprTokens(t *testing.T) {
	const name, number, word, mark = api.KName, api.KNum, api.KWord, api.KMark
	token := func(kind int, s string) api.Token { return api.Token{Kind: kind, Text: s, N: -9, At: 40} }
	x := token(name, "x")
	list := func(l ...api.Token) []api.Token { return l }
	for i, c := range []struct {
		l    []api.Token
		want api.Expr
		n    int
	}{
		{list(token(mark, "not"), x), un(api.UnNot, variable("x")), 2},
		{list(token(word, "-"), x), un(api.UnNeg, variable("x")), 2},
		{list(x, token(word, "<="), x), bin(api.OpLe, variable("x"), variable("x")), 3},
		{list(x, token(mark, "when"), x), when(variable("x"), "x"), 3},
		{list(token(mark, "true")), truth(1), 1},
		{list(token(word, "("), x, token(word, ")")), variable("x"), 3},
		{list(token(mark, "merge"), x, x, x), merge("x", variable("x"), variable("x")), 4},
		{list(token(mark, "if"), x, token(mark, "then"), x, token(mark, "else"), x), choose(variable("x"), variable("x"), variable("x")), 6},
		{list(x, token(word, "->"), x), arrow(variable("x"), variable("x")), 3},
		// Names and numbers are what their Kinds say; Right is not applied.
		{list(token(name, "if")), variable("if"), 1},
		{list(token(name, "")), variable(""), 1},
		{list(token(name, "+")), variable("+"), 1},
		{list(token(number, "x")), num(-9), 1},
		{list(x, token(name, "+"), x), variable("x"), 1},
		{list(x, token(number, "+"), x), variable("x"), 1},
		{list(x, token(0, "+"), x), variable("x"), 1},
		{list(x, token(5, "+"), x), variable("x"), 1},
		{list(x, token(word, "x")), variable("x"), 1},
		{list(x, token(mark, "")), variable("x"), 1},
		{list(x, token(mark, "+ ")), variable("x"), 1},
	} {
		e, n, err, at := Expr(c.l, 0, 77)
		if !SameExpr(e, c.want) || n != c.n || err != api.OK || at != 0 {
			t.Errorf("%d: %v, %d, %d, %d", i, e, n, err, at)
		}
	}
	for _, k := range list(token(word, "x"), token(mark, "x"), token(word, "7"), token(mark, ""), token(0, "x"), token(0, ""), token(5, "x"), token(-1, "true"), token(name+4, "("), api.Token{At: 40}) {
		if e, n, err, at := Expr(list(k), 0, 77); !SameExpr(e, api.Expr{}) || n != 0 || err != api.ErrToken || at != 40 {
			t.Errorf("%v: %v, %d, %d, %d", k, e, n, err, at)
		}
		if e, n, err, at := Expr(list(x, token(mark, "when"), k), 0, 77); !SameExpr(e, api.Expr{}) || n != 0 || err != api.ErrToken || at != 40 {
			t.Errorf("when %v: %v, %d, %d, %d", k, e, n, err, at)
		}
	}
	far := list(x, token(mark, "+"), api.Token{Kind: mark, Text: ")", At: math.MinInt})
	if _, _, err, at := Expr(far, 0, 77); err != api.ErrToken || at != math.MinInt {
		t.Error(err, at)
	}
}

// The levels of the grammar, from expr to atom, for TestFewParentheses.
const (
	levelExpr = iota
	level1
	level2
	level3
	level4
	level5
	level6
	levelUnary
	levelFactor
	levelAtom
)

func levelOf(x api.Expr) int {
	switch x.Kind {
	case api.EArrow:
		return levelExpr
	case api.EBin:
		return []int{0, level5, level5, level6, level6, level6, level4, level4, level2, level1, level1, level3, level3, level3, level3, level3, level3}[x.N]
	case api.EUn:
		return levelUnary
	case api.EWhen, api.EUnless:
		return levelFactor
	}
	return levelAtom
}

// few is an expression with parentheses only where it would be another one without them. Behind it comes, as follows says, "when" or "unless" (2), an operator (1), or neither (0).
func few(x api.Expr, need, follows int) string {
	// An if takes all that follows, and a merge the next when.
	if levelOf(x) < need || x.Kind == api.EIf && follows > 0 || x.Kind == api.EMerge && follows > 1 {
		return "( " + few(x, levelExpr, 0) + " )"
	}
	level := levelOf(x)
	switch x.Kind {
	case api.EUn:
		return []string{"", "- ", "not "}[x.N] + few(x.Sub[0], levelUnary, follows)
	case api.EBin:
		left := level
		if level == level3 {
			left++
		}
		return few(x.Sub[0], left, 1) + " " + marks()[x.N] + " " + few(x.Sub[1], level+1, follows)
	case api.EArrow:
		return few(x.Sub[0], level1, 1) + " -> " + few(x.Sub[1], levelExpr, follows)
	case api.EIf:
		return "if " + few(x.Sub[0], levelExpr, 0) + " then " + few(x.Sub[1], levelExpr, 0) + " else " + few(x.Sub[2], levelExpr, 0)
	case api.EWhen:
		return few(x.Sub[0], levelFactor, 2) + " when " + x.Name
	case api.EUnless:
		return few(x.Sub[0], levelFactor, 2) + " unless " + x.Name
	case api.EMerge:
		return "merge " + x.Name + " " + few(x.Sub[0], levelFactor, 0) + " " + few(x.Sub[1], levelFactor, follows)
	}
	return atomText(x)
}

func atomText(x api.Expr) string {
	switch {
	case x.Kind == api.EVar:
		return x.Name
	case x.Kind == api.EBool:
		return []string{"false", "true"}[x.N]
	}
	return digits(x.N)
}

// digits are those of a number that is not negative.
func digits(n int32) string {
	if n < 10 {
		return string(rune('0' + n))
	}
	return digits(n/10) + digits(n%10)
}

// joined is an expression as text, of which the parts are texts already.
func joined(x api.Expr, parts []string) string {
	switch x.Kind {
	case api.EUn:
		return []string{"", "-", "not "}[x.N] + parts[0]
	case api.EBin:
		return strings.Join(parts, " "+marks()[x.N]+" ")
	case api.EArrow:
		return strings.Join(parts, " -> ")
	case api.EIf:
		return "if " + parts[0] + " then " + parts[1] + " else " + parts[2]
	case api.EWhen:
		return parts[0] + " when " + x.Name
	case api.EUnless:
		return parts[0] + " unless " + x.Name
	case api.EMerge:
		return "merge " + x.Name + " " + parts[0] + " " + parts[1]
	}
	return atomText(x)
}

// full is an expression as Show tells it: whole, or as a part in which it may need parentheses.
func full(x api.Expr, whole bool) string {
	var parts []string
	for _, p := range x.Sub {
		parts = append(parts, full(p, x.Kind == api.EIf))
	}
	if whole || slices.Contains([]int{api.ENum, api.EBool, api.EVar, api.EWhen, api.EUnless}, x.Kind) {
		return joined(x, parts)
	}
	return "(" + joined(x, parts) + ")"
}

// nested is an expression with that many pairs of parentheses around it and around each of its parts.
func nested(x api.Expr, pairs int) string {
	var parts []string
	for _, p := range x.Sub {
		parts = append(parts, nested(p, pairs))
	}
	return strings.Repeat("(", pairs) + joined(x, parts) + strings.Repeat(")", pairs)
}

// around are the ways in which an expression is a part of a greater one.
func around() []func(x api.Expr) api.Expr {
	out := []func(x api.Expr) api.Expr{
		func(x api.Expr) api.Expr { return un(api.UnNeg, x) },
		func(x api.Expr) api.Expr { return un(api.UnNot, x) },
		func(x api.Expr) api.Expr { return arrow(x, a()) },
		func(x api.Expr) api.Expr { return arrow(num(12), x) },
		func(x api.Expr) api.Expr { return choose(x, a(), b()) },
		func(x api.Expr) api.Expr { return choose(a(), x, b()) },
		func(x api.Expr) api.Expr { return choose(a(), b(), x) },
		func(x api.Expr) api.Expr { return when(x, "c") },
		func(x api.Expr) api.Expr { return unless(x, "c") },
		func(x api.Expr) api.Expr { return merge("c", x, truth(0)) },
		func(x api.Expr) api.Expr { return merge("c", truth(1), x) },
	}
	for op := int32(api.OpAdd); op <= api.OpGe; op++ {
		out = append(out, func(x api.Expr) api.Expr { return bin(op, x, a()) })
		out = append(out, func(x api.Expr) api.Expr { return bin(op, b(), x) })
	}
	return out
}

// trees calls f with each expression that is made by that many of the ways around an atom.
func trees(ways int, f func(x api.Expr)) {
	if ways == 0 {
		for _, x := range []api.Expr{num(0), num(math.MaxInt32), truth(0), truth(1), a()} {
			f(x)
		}
		return
	}
	trees(ways-1, func(x api.Expr) {
		// Behind the first way it makes no difference which atom is there.
		if ways > 1 && !SameExpr(innermost(x), a()) {
			return
		}
		for _, w := range around() {
			f(w(x))
		}
	})
}

// innermost is the part of a tree around which its ways are.
func innermost(x api.Expr) api.Expr {
	for len(x.Sub) > 0 {
		deepest := 0
		for i, p := range x.Sub {
			if len(p.Sub) > 0 {
				deepest = i
			}
		}
		x = x.Sub[deepest]
	}
	return x
}

// P13.2, P13.3: the trees of small expressions, with all parentheses and with few of them.
func TestTrees(t *testing.T) {
	count := 0
	for ways := range 4 {
		trees(ways, func(x api.Expr) {
			count++
			shows(t, x, full(x, true))
			parses(t, few(x, levelExpr, 0), x)
		})
	}
	if count < 50000 {
		t.Error(count)
	}
}

// P13.2, P13.3: operations whose parts are all operations.
func TestTreesOfPairs(t *testing.T) {
	var inner []api.Expr
	for _, w := range around() {
		inner = append(inner, w(c()))
	}
	var outer []func(x, y api.Expr) api.Expr
	outer = append(outer, arrow,
		func(x, y api.Expr) api.Expr { return choose(x, y, x) },
		func(x, y api.Expr) api.Expr { return choose(y, y, x) },
		func(x, y api.Expr) api.Expr { return merge("m", x, y) })
	for op := int32(api.OpAdd); op <= api.OpGe; op++ {
		outer = append(outer, func(x, y api.Expr) api.Expr { return bin(op, x, y) })
	}
	for _, o := range outer {
		for _, x := range inner {
			for _, y := range inner {
				shows(t, o(x, y), full(o(x, y), true))
				parses(t, few(o(x, y), levelExpr, 0), o(x, y))
			}
		}
	}
}

// P13.6: parentheses around an expression.
func TestMoreParentheses(t *testing.T) {
	for ways := range 3 {
		trees(ways, func(x api.Expr) {
			for _, pairs := range []int{1, 2, 20} {
				parses(t, nested(x, pairs), x)
			}
		})
	}
	deep := strings.Repeat("(", 2000) + "a" + strings.Repeat(")", 2000)
	p, e, _ := Parse("node f () returns (); let x = " + deep + "; tel")
	if e != api.OK || !SameExpr(p.Eqs[0].E, a()) {
		t.Error(e)
	}
}

// chain is an expression of that many levels.
func chain(levels int) api.Expr {
	x := a()
	for range levels - 1 {
		x = un(api.UnNeg, x)
	}
	return x
}

// bush is an expression of that many parts, nested as little as possible with operations of one and two.
func bush(parts int) api.Expr {
	switch parts {
	case 1:
		return a()
	case 2:
		return un(api.UnNot, a())
	}
	return bin(api.OpAdd, bush((parts-1)/2), bush(parts-1-(parts-1)/2))
}

// wide is an expression of that many parts with all but one of them directly below it.
func wide(parts int) api.Expr {
	return api.Expr{Kind: api.EMerge, Name: "m", Sub: slices.Repeat([]api.Expr{a()}, parts-1)}
}

func wantRight(t *testing.T, x api.Expr, want api.Errno) {
	t.Helper()
	if e := Right(x); e != want {
		t.Fatalf("Right(%.200v) = %d, want %d", x, e, want)
	}
	s, e := Show(x)
	if e != want || (s == "") != (want != api.OK) {
		t.Fatalf("Show(%.200v) = %q, %d, want %d", x, s, e, want)
	}
}

// P13.3: the limits, on both sides, and which comes first.
func TestRightLimits(t *testing.T) {
	wrong := variable("if")
	for _, c := range []struct {
		x    api.Expr
		want api.Errno
	}{
		{chain(11), api.OK},
		{chain(12), api.OK},
		{chain(13), api.ErrDeep},
		{chain(120), api.ErrDeep},
		{chain(121), api.ErrBig},
		{chain(1 << 16), api.ErrBig},
		{bush(119), api.OK},
		{bush(120), api.OK},
		{bush(121), api.ErrBig},
		{bush(240), api.ErrBig},
		{wide(119), api.ErrForm},
		{wide(120), api.ErrForm},
		{wide(121), api.ErrBig},
		{wide(1 << 20), api.ErrBig},
		{bin(0, chain(11), chain(11)), api.ErrForm},
		{bin(0, chain(11), chain(12)), api.ErrDeep},
		{bin(0, chain(12), chain(11)), api.ErrDeep},
		{bin(0, a(), bush(118)), api.ErrForm},
		{bin(0, a(), bush(119)), api.ErrBig},
		{bin(0, bush(119), a()), api.ErrBig},
		{bin(api.OpAdd, wrong, chain(12)), api.ErrDeep},
		{bin(api.OpAdd, wrong, bush(119)), api.ErrBig},
		{bin(api.OpAdd, chain(12), bush(107)), api.ErrDeep},
		{bin(api.OpAdd, chain(12), bush(108)), api.ErrBig},
		{choose(chain(11), bush(59), bush(49)), api.OK},
		{choose(bush(59), bush(50), chain(11)), api.ErrBig},
		// Levels and parts count wherever they are: also below an ENum, which has none.
		{api.Expr{Kind: api.ENum, Sub: []api.Expr{chain(12)}}, api.ErrDeep},
		{api.Expr{Kind: api.ENum, Sub: []api.Expr{bush(120)}}, api.ErrBig},
		{api.Expr{Kind: -5, Sub: []api.Expr{chain(11)}}, api.ErrForm},
	} {
		wantRight(t, c.x, c.want)
	}
}

// R1: parts that are shared count each time, but are not visited beyond the limit.
func TestRightSharedParts(t *testing.T) {
	x := a()
	for range 64 {
		x = bin(api.OpAdd, x, x)
	}
	wantRight(t, x, api.ErrBig)
	if s, e := Print(api.Program{Name: "f", Eqs: []api.Eq{{Name: "a", E: x}}}); s != "" || e != api.ErrForm {
		t.Error(s, e)
	}
}

// P13.3: where the deep part is makes no difference.
func TestRightDeepEverywhere(t *testing.T) {
	for _, w := range around() {
		wantRight(t, w(chain(11)), api.OK)
		wantRight(t, w(chain(12)), api.ErrDeep)
		wantRight(t, w(w(chain(10))), api.OK)
		wantRight(t, w(w(chain(11))), api.ErrDeep)
		wantRight(t, w(variable("a b")), api.ErrForm)
		wantRight(t, w(w(w(num(-1)))), api.ErrForm)
	}
}

// shape is what the chapter says that a kind requires.
type shape struct {
	number func(n int32) bool
	named  bool
	parts  int
}

func shapes() map[int]shape {
	upTo := func(least, most int32) func(n int32) bool {
		return func(n int32) bool { return n >= least && n <= most }
	}
	return map[int]shape{
		api.ENum:    {upTo(0, math.MaxInt32), false, 0},
		api.EBool:   {upTo(0, 1), false, 0},
		api.EVar:    {upTo(0, 0), true, 0},
		api.EUn:     {upTo(1, 2), false, 1},
		api.EBin:    {upTo(1, 16), false, 2},
		api.EIf:     {upTo(0, 0), false, 3},
		api.EArrow:  {upTo(0, 0), false, 2},
		api.EWhen:   {upTo(0, 0), true, 1},
		api.EUnless: {upTo(0, 0), true, 1},
		api.EMerge:  {upTo(0, 0), true, 2},
	}
}

// P13.3: each kind with each number, name and count of parts.
func TestRightForms(t *testing.T) {
	names := map[string]bool{"x": true, "a_1": true, "abcdefghijklmnop": true, "": false, "abcdefghijklmnopq": false, "if": false, "int": false, "X": false, "1": false, "_a": false, "a b": false, "a ": false, "é": false, "+": false, "\x00": false}
	var numbers []int32
	for n := int32(-3); n < 20; n++ {
		numbers = append(numbers, n)
	}
	numbers = append(numbers, 100, 256, 257, math.MaxInt32, math.MinInt32)
	kinds := []int{math.MinInt, math.MaxInt, 1 << 32, 256, 257, 1<<32 + api.EVar}
	for k := -2; k < api.Kinds+3; k++ {
		kinds = append(kinds, k)
	}
	for _, k := range kinds {
		need, known := shapes()[k]
		for _, n := range numbers {
			for name, isName := range names {
				for parts := range 5 {
					x := api.Expr{Kind: k, N: n, Name: name, Sub: slices.Repeat([]api.Expr{a()}, parts)}
					want := api.ErrForm
					if known && need.number(n) && parts == need.parts && (need.named && isName || !need.named && name == "") {
						want = api.OK
					}
					wantRight(t, x, want)
				}
			}
		}
	}
}

// R1: a nil slice is an empty one.
func TestRightEmptySub(t *testing.T) {
	for _, x := range []api.Expr{num(3), truth(1), a()} {
		x.Sub = []api.Expr{}
		wantRight(t, x, api.OK)
	}
}

// P13.3: the examples of the words.
func TestShow(t *testing.T) {
	for want, x := range map[string]api.Expr{
		"0":                     num(0),
		"2147483647":            num(math.MaxInt32),
		"true":                  truth(1),
		"false":                 truth(0),
		"a":                     a(),
		"-a":                    un(api.UnNeg, a()),
		"-5":                    un(api.UnNeg, num(5)),
		"-(-5)":                 un(api.UnNeg, un(api.UnNeg, num(5))),
		"-a when b":             un(api.UnNeg, when(a(), "b")),
		"(-a) when b":           when(un(api.UnNeg, a()), "b"),
		"not a":                 un(api.UnNot, a()),
		"not (-a)":              un(api.UnNot, un(api.UnNeg, a())),
		"-(not a)":              un(api.UnNeg, un(api.UnNot, a())),
		"-(a + b)":              un(api.UnNeg, bin(api.OpAdd, a(), b())),
		"a << b":                bin(api.OpShl, a(), b()),
		"(a + b) + c":           bin(api.OpAdd, bin(api.OpAdd, a(), b()), c()),
		"a + (b + c)":           bin(api.OpAdd, a(), bin(api.OpAdd, b(), c())),
		"a - (-5)":              bin(api.OpSub, a(), un(api.UnNeg, num(5))),
		"a -> (b -> c)":         arrow(a(), arrow(b(), c())),
		"(a -> b) -> c":         arrow(arrow(a(), b()), c()),
		"if -a then b else c":   choose(un(api.UnNeg, a()), b(), c()),
		"-(if a then b else c)": un(api.UnNeg, choose(a(), b(), c())),
		"if if a then b else c then if a then b else c else if a then b else c": choose(choose(a(), b(), c()), choose(a(), b(), c()), choose(a(), b(), c())),
		"a when b unless c":                unless(when(a(), "b"), "c"),
		"(merge a b c) when b":             when(merge("a", b(), c()), "b"),
		"merge a b c":                      merge("a", b(), c()),
		"merge a b when a c unless a":      merge("a", when(b(), "a"), unless(c(), "a")),
		"merge a (-5) (merge b a (not c))": merge("a", un(api.UnNeg, num(5)), merge("b", a(), un(api.UnNot, c()))),
	} {
		shows(t, x, want)
	}
}

// small is a valid program with something in each place.
func small() api.Program {
	return api.Program{
		Name: "f",
		Ins:  []api.Var{{Name: "x", Type: api.TInt}, {Name: "c", Type: api.TBool}},
		Outs: []api.Var{{Name: "y", Type: api.TInt}, {Name: "z", Type: api.TBool}},
		Locals: []api.Var{
			{Name: "n", Type: api.TInt},
			{Name: "m", Type: api.TInt, Clock: api.Clock{Kind: api.On, Name: "c"}},
			{Name: "k", Type: api.TBool, Clock: api.Clock{Kind: api.Off, Name: "c"}},
		},
		Eqs: []api.Eq{
			{Name: "n", Delay: api.DFby, First: num(5), E: bin(api.OpAdd, variable("n"), variable("x"))},
			{Name: "y", E: choose(c(), variable("n"), un(api.UnNeg, num(5)))},
			{Name: "m", Delay: api.DPre, E: when(variable("x"), "c")},
			{Name: "k", Delay: api.DFby, First: truth(1), E: unless(c(), "c")},
			{Name: "z", Delay: api.DFby, First: un(api.UnNeg, num(7)), E: c()},
			{Name: "z", Delay: api.DFby, First: truth(0), E: merge("c", c(), c())},
		},
	}
}

const smallText = `node f (x : int; c : bool) returns (y : int; z : bool);
var
  n : int;
  m : int when c;
  k : bool unless c;
let
  n = 5 fby n + x;
  y = if c then n else -5;
  m = pre x when c;
  k = true fby c unless c;
  z = -7 fby c;
  z = false fby merge c c c;
tel
`

func wantProgram(t *testing.T, s string, want api.Program) {
	t.Helper()
	p, e, at := Parse(s)
	if e != api.OK || at != 0 || !Same(p, want) {
		t.Fatalf("Parse(%q) = %v, %d, %d, want %v", s, p, e, at, want)
	}
}

func wantPrint(t *testing.T, p api.Program, want string) {
	t.Helper()
	s, e := Print(p)
	if e != api.OK || s != want {
		t.Fatalf("Print(%v) = %q, %d, want %q", p, s, e, want)
	}
	wantProgram(t, s, p)
}

// P13.1, P13.4, P13.6: what is printed is what is parsed.
func TestPrintAndParse(t *testing.T) {
	wantPrint(t, small(), smallText)
	wantPrint(t, api.Program{Name: "f"}, "node f () returns ();\nlet\ntel\n")
	wantPrint(t, api.Program{Name: "f", Locals: []api.Var{{Name: "a", Type: api.TBool}}}, "node f () returns ();\nvar\n  a : bool;\nlet\ntel\n")
	wantPrint(t, api.Program{Name: "g", Outs: []api.Var{{Name: "a", Type: api.TInt}}}, "node g () returns (a : int);\nlet\ntel\n")
	const example = "node f (x : int) returns (y : int);\nvar\n  n : int;\nlet\n  n = 0 fby y;\n  y = n + x;\ntel\n"
	p, e, _ := Parse(example)
	if e != api.OK {
		t.Fatal(e)
	}
	wantPrint(t, p, example)
}

// P13.1: the trees of a program, field by field.
func TestParse(t *testing.T) {
	wantProgram(t, smallText, small())
	wantProgram(t, "node f()returns();let tel", api.Program{Name: "f"})
	wantProgram(t, "node f () returns (); var a : int unless a; let tel", api.Program{Name: "f", Locals: []api.Var{{Name: "a", Type: api.TInt, Clock: api.Clock{Kind: api.Off, Name: "a"}}}})
	for s, want := range map[string]api.Eq{
		"a = b;":              {Name: "a", E: b()},
		"a = pre b;":          {Name: "a", Delay: api.DPre, E: b()},
		"a = pre -1;":         {Name: "a", Delay: api.DPre, E: un(api.UnNeg, num(1))},
		"a = 1 fby b;":        {Name: "a", Delay: api.DFby, First: num(1), E: b()},
		"a = -1 fby b;":       {Name: "a", Delay: api.DFby, First: un(api.UnNeg, num(1)), E: b()},
		"a = true fby b;":     {Name: "a", Delay: api.DFby, First: truth(1), E: b()},
		"a = false fby b;":    {Name: "a", Delay: api.DFby, First: truth(0), E: b()},
		"a = 1 fby 2 -> 3;":   {Name: "a", Delay: api.DFby, First: num(1), E: arrow(num(2), num(3))},
		"a = 1 fby -2;":       {Name: "a", Delay: api.DFby, First: num(1), E: un(api.UnNeg, num(2))},
		"a = 1;":              {Name: "a", E: num(1)},
		"a = -1;":             {Name: "a", E: un(api.UnNeg, num(1))},
		"a = -1 + b;":         {Name: "a", E: bin(api.OpAdd, un(api.UnNeg, num(1)), b())},
		"a = -1 when c;":      {Name: "a", E: un(api.UnNeg, when(num(1), "c"))},
		"a = 1 when c;":       {Name: "a", E: when(num(1), "c")},
		"a = - -1;":           {Name: "a", E: un(api.UnNeg, un(api.UnNeg, num(1)))},
		"a = -b;":             {Name: "a", E: un(api.UnNeg, b())},
		"a = -true;":          {Name: "a", E: un(api.UnNeg, truth(1))},
		"a = true & b;":       {Name: "a", E: bin(api.OpAnd, truth(1), b())},
		"a = (1) -> b;":       {Name: "a", E: arrow(num(1), b())},
		"a = a;":              {Name: "a", E: a()},
		"a = pre (pre_ = a);": {Name: "a", Delay: api.DPre, E: bin(api.OpEq, variable("pre_"), a())},
	} {
		wantProgram(t, "node f () returns (); let "+s+" tel", api.Program{Name: "f", Eqs: []api.Eq{want}})
		wantProgram(t, "node f () returns (); let b = c; "+s+s+" tel", api.Program{Name: "f", Eqs: []api.Eq{{Name: "b", E: c()}, want, want}})
	}
}

// P13.1: errors, with their places.
func TestParseErrors(t *testing.T) {
	const header = "node f () returns (); let " // 26 bytes
	deep := strings.Repeat("- ", 12) + "1"      // 13 levels
	long := strings.Repeat("- ", 120) + "1"     // 121 expressions, 121 levels
	most, big := full(bush(120), true), full(bush(121), true)
	for _, c := range []struct {
		s  string
		e  api.Errno
		at int
	}{
		{s: "", e: api.ErrToken},
		{s: " -- x\n", e: api.ErrToken, at: 6},
		{s: "nod", e: api.ErrToken},
		{s: "node", e: api.ErrToken, at: 4},
		{s: "node  ", e: api.ErrToken, at: 6},
		{s: "node if", e: api.ErrToken, at: 5},
		{s: "node f () returns (); let", e: api.ErrToken, at: 25},
		{s: "node f () returns () let tel", e: api.ErrToken, at: 21},
		{s: "node f (x) returns (); let tel", e: api.ErrToken, at: 9},
		{s: "node f (x : int;) returns (); let tel", e: api.ErrToken, at: 16},
		{s: "node f (x : int, y : int) returns (); let tel", e: api.ErrToken, at: 15},
		{s: "node f (x : int when c) returns (); let tel", e: api.ErrToken, at: 16},
		{s: "node f (x : x) returns (); let tel", e: api.ErrToken, at: 12},
		{s: "node f () returns (); var let tel", e: api.ErrToken, at: 26},
		{s: "node f () returns (); var x : int let tel", e: api.ErrToken, at: 34},
		{s: "node f () returns (); var x : int when if; let tel", e: api.ErrToken, at: 39},
		{s: "node f () returns (); var x : int when c unless d; let tel", e: api.ErrToken, at: 41},
		{s: header + "tel tel", e: api.ErrToken, at: 30},
		{s: header + "tel ;", e: api.ErrToken, at: 30},
		{s: header + "tel -- and no more"},
		{s: header + "x 1; tel", e: api.ErrToken, at: 28},
		{s: header + "x = ; tel", e: api.ErrToken, at: 30},
		{s: header + "x = 1 tel", e: api.ErrToken, at: 32},
		{s: header + "x = 1", e: api.ErrToken, at: 31},
		{s: header + "x = 1;", e: api.ErrToken, at: 32},
		{s: header + "x = 1; 5 = x; tel", e: api.ErrToken, at: 33},
		{s: header + "x = a fby b; tel", e: api.ErrToken, at: 32},
		{s: header + "x = (1) fby b; tel", e: api.ErrToken, at: 34},
		{s: header + "x = - fby b; tel", e: api.ErrToken, at: 32},
		{s: header + "x = -true fby b; tel", e: api.ErrToken, at: 36},
		{s: header + "x = not true fby b; tel", e: api.ErrToken, at: 39},
		{s: header + "x = - -1 fby b; tel", e: api.ErrToken, at: 35},
		{s: header + "x = 1 + 1 fby b; tel", e: api.ErrToken, at: 36},
		{s: header + "x = 1 fby 2 fby b; tel", e: api.ErrToken, at: 38},
		{s: header + "x = 1 fby pre b; tel", e: api.ErrToken, at: 36},
		{s: header + "x = pre pre b; tel", e: api.ErrToken, at: 34},
		{s: header + "x = pre 1 fby b; tel", e: api.ErrToken, at: 36},
		{s: header + "x = 0 -> pre b; tel", e: api.ErrToken, at: 35},
		{s: header + "x = a < b < c; tel", e: api.ErrToken, at: 36},
		{s: header + "x = a < b <= c; tel", e: api.ErrToken, at: 36},
		// The error of the scanner comes before all others, wherever it is.
		{s: "tel tel 07", e: api.ErrToken, at: 8},
		{s: header + "x = ; tel ?", e: api.ErrSign, at: 36},
		{s: header + "x = " + deep + "; tel A", e: api.ErrSign, at: 61},
		{s: header + "x = abcdefghijklmnopq; tel", e: api.ErrBig, at: 30},
		{s: strings.Repeat("A", 4097), e: api.ErrBig},
		{s: strings.Repeat(" ", 4097), e: api.ErrBig},
		{s: strings.Repeat(" ", 4096), e: api.ErrToken, at: 4096},
		{s: strings.Repeat("(", 4096), e: api.ErrToken},
		{s: header + "x = " + strings.Repeat("(", 4000), e: api.ErrToken, at: 4030},
		{s: header + "x = " + strings.Repeat("-(", 2000), e: api.ErrToken, at: 4030},
		// Right is asked behind the ; of its equation.
		{s: header + "x = " + big + "; tel", e: api.ErrBig, at: 26},
		{s: header + "x = " + deep + "; tel", e: api.ErrDeep, at: 26},
		{s: header + "x = " + long + "; tel", e: api.ErrBig, at: 26},
		{s: header + "x = " + deep[2:] + "; tel"},
		{s: header + "x = " + most + "; tel"},
		{s: header + "x = 1 fby " + most + "; tel"},
		{s: header + "x = -(" + most + "); tel", e: api.ErrBig, at: 26},
		{s: header + "x = 1" + strings.Repeat("+1", 59) + "; tel", e: api.ErrDeep, at: 26},
		{s: header + "x = 1" + strings.Repeat("+1", 60) + "; tel", e: api.ErrBig, at: 26},
		{s: header + "x = 1 fby " + deep + "; tel", e: api.ErrDeep, at: 26},
		{s: header + "x = -1 fby " + deep[2:] + "; tel"},
		{s: header + "x = pre " + big + "; tel", e: api.ErrBig, at: 26},
		{s: header + "x = " + deep + "; " + "y = " + big + "; tel", e: api.ErrDeep, at: 26},
		{s: header + "x = 1; -- x\n y = " + deep + "; " + "z = " + big + "; tel", e: api.ErrDeep, at: 39},
		{s: header + "x = 1; y = " + big + "; " + "z = " + deep + "; tel", e: api.ErrBig, at: 33},
		{s: header + "x = " + deep + ";", e: api.ErrDeep, at: 26},
		{s: header + "x = " + deep + "; ;", e: api.ErrDeep, at: 26},
		{s: header + "x = " + deep, e: api.ErrToken, at: 55},
		{s: header + "x = " + deep + " tel", e: api.ErrToken, at: 56},
		{s: header + "x = " + deep + " fby 1; tel", e: api.ErrToken, at: 56},
		{s: header + "x = 1; y = ; z = " + deep + "; tel", e: api.ErrToken, at: 37},
	} {
		p, e, at := Parse(c.s)
		if e != c.e || at != c.at || e != api.OK && !Same(p, api.Program{}) {
			t.Errorf("Parse(%.90q) = %v, %d, %d, want %d, %d", c.s, p, e, at, c.e, c.at)
		}
	}
}

// P13.6: blanks and comments between tokens.
func TestBlanksAndComments(t *testing.T) {
	l := scanned(t, smallText)
	for _, gap := range []string{" ", "\n", "\t", "\r\n", "    ", " --\n", " -- y = 3;\n", "\n-- tel\n-- tel\n"} {
		var s strings.Builder
		for _, k := range l {
			s.WriteString(gap + k.Text)
		}
		wantProgram(t, s.String()+gap, small())
	}
	var tight strings.Builder
	for i, k := range l {
		// Two words, or a word and a number, are one without a blank; so are some marks, but none of this text.
		if i > 0 && l[i-1].Kind != api.KMark && k.Kind != api.KMark {
			tight.WriteByte(' ')
		}
		tight.WriteString(k.Text)
	}
	wantProgram(t, tight.String(), small())
}

// P13.6: programs with each of the small expressions.
func TestInverse(t *testing.T) {
	var eqs []api.Eq
	check := func() {
		p := small()
		p.Eqs = eqs
		s, e := Print(p)
		if e != api.OK {
			t.Fatal(e)
		}
		wantProgram(t, s, p)
		eqs = nil
	}
	for ways := range 3 {
		trees(ways, func(x api.Expr) {
			for _, first := range []api.Expr{num(0), num(math.MaxInt32), truth(0), truth(1), un(api.UnNeg, num(0)), un(api.UnNeg, num(math.MaxInt32))} {
				eqs = append(eqs, api.Eq{Name: "n", Delay: api.DFby, First: first, E: x})
			}
			eqs = append(eqs, api.Eq{Name: "n", E: x}, api.Eq{Name: "n", Delay: api.DPre, E: x})
			if len(eqs) > 60 {
				check()
			}
		})
	}
	check()
}

// P13.4: each way in which a program is not valid.
func TestPrintForm(t *testing.T) {
	literal := func(x api.Expr) func(p *api.Program) { return func(p *api.Program) { p.Eqs[0].First = x } }
	clock := func(kind int, name string) func(p *api.Program) {
		return func(p *api.Program) { p.Locals[1].Clock = api.Clock{Kind: kind, Name: name} }
	}
	for i, change := range []func(p *api.Program){
		func(p *api.Program) { p.Name = "" },
		func(p *api.Program) { p.Name = "node" },
		func(p *api.Program) { p.Name = "F" },
		func(p *api.Program) { p.Ins[0].Name = "" },
		func(p *api.Program) { p.Ins[1].Name = "if" },
		func(p *api.Program) { p.Outs[0].Name = "x;" },
		func(p *api.Program) { p.Outs[1].Name = "abcdefghijklmnopq" },
		func(p *api.Program) { p.Locals[0].Name = "1" },
		func(p *api.Program) { p.Locals[2].Name = "A" },
		func(p *api.Program) { p.Eqs[0].Name = "" },
		func(p *api.Program) { p.Eqs[5].Name = "tel" },
		func(p *api.Program) { p.Ins[0].Type = 0 },
		func(p *api.Program) { p.Ins[1].Type = 3 },
		func(p *api.Program) { p.Outs[0].Type = -1 },
		func(p *api.Program) { p.Outs[1].Type = math.MaxInt },
		func(p *api.Program) { p.Locals[0].Type = 0 },
		func(p *api.Program) { p.Locals[2].Type = 3 },
		func(p *api.Program) { p.Ins[0].Clock.Kind = api.On },
		func(p *api.Program) { p.Ins[1].Clock = api.Clock{Kind: api.On, Name: "c"} },
		func(p *api.Program) { p.Ins[1].Clock.Name = "c" },
		func(p *api.Program) { p.Outs[0].Clock = api.Clock{Kind: api.Off, Name: "c"} },
		func(p *api.Program) { p.Outs[1].Clock.Name = "c" },
		func(p *api.Program) { p.Outs[1].Clock.Kind = 3 },
		clock(api.Base, "c"),
		clock(api.On, ""),
		clock(api.Off, ""),
		clock(api.On, "if"),
		clock(api.Off, "C"),
		clock(3, "c"),
		clock(3, ""),
		clock(-1, ""),
		clock(-1, "c"),
		clock(math.MinInt, ""),
		func(p *api.Program) { p.Eqs[1].Delay = 3 },
		func(p *api.Program) { p.Eqs[1].Delay = -1 },
		func(p *api.Program) { p.Eqs[0].Delay = 3 },
		func(p *api.Program) { p.Eqs[0].Delay = api.DNone },
		func(p *api.Program) { p.Eqs[0].Delay = api.DPre },
		func(p *api.Program) { p.Eqs[1].Delay = api.DFby },
		func(p *api.Program) { p.Eqs[1].First = num(0) },
		func(p *api.Program) { p.Eqs[1].First.N = 1 },
		func(p *api.Program) { p.Eqs[1].First.Name = "a" },
		func(p *api.Program) { p.Eqs[1].First.Sub = []api.Expr{{}} },
		func(p *api.Program) { p.Eqs[2].First = truth(0) },
		literal(api.Expr{}),
		literal(num(-1)),
		literal(truth(2)),
		literal(a()),
		literal(un(api.UnNot, num(1))),
		literal(un(api.UnNot, truth(1))),
		literal(un(api.UnNeg, truth(1))),
		literal(un(api.UnNeg, a())),
		literal(un(api.UnNeg, num(-1))),
		literal(un(api.UnNeg, un(api.UnNeg, num(1)))),
		literal(api.Expr{Kind: api.EUn, N: api.UnNeg}),
		literal(api.Expr{Kind: api.EUn, N: api.UnNeg, Sub: []api.Expr{num(1), num(1)}}),
		literal(api.Expr{Kind: api.EUn, N: api.UnNeg, Name: "a", Sub: []api.Expr{num(1)}}),
		literal(api.Expr{Kind: api.ENum, Name: "a"}),
		literal(api.Expr{Kind: api.EBool, Sub: []api.Expr{{}}}),
		literal(when(num(1), "c")),
		literal(bin(api.OpAdd, num(1), num(1))),
		func(p *api.Program) { p.Eqs[0].E = api.Expr{} },
		func(p *api.Program) { p.Eqs[1].E = variable("if") },
		func(p *api.Program) { p.Eqs[2].E = chain(13) },
		func(p *api.Program) { p.Eqs[5].E = bush(121) },
	} {
		p := small()
		change(&p)
		if s, e := Print(p); s != "" || e != api.ErrForm {
			t.Errorf("%d: %q, %d", i, s, e)
		}
	}
}

// P13.4: what may be otherwise in a valid program; whether its names and types fit together is another layer's question.
func TestPrintValid(t *testing.T) {
	for i, c := range []struct {
		change    func(p *api.Program)
		old, text string
	}{
		{func(p *api.Program) { p.Name = "abcdefghijklmnop" }, "node f", "node abcdefghijklmnop"},
		{func(p *api.Program) { p.Ins[1].Name = "x" }, "x : int; c : bool", "x : int; x : bool"},
		{func(p *api.Program) { p.Locals[1].Clock.Name = "none" }, "when c;\n  k", "when none;\n  k"},
		{func(p *api.Program) { p.Locals[1].Clock = api.Clock{Kind: api.Off, Name: "m"} }, "m : int when c", "m : int unless m"},
		{func(p *api.Program) { p.Eqs[0].First = un(api.UnNeg, num(math.MaxInt32)) }, "5 fby", "-2147483647 fby"},
		{func(p *api.Program) { p.Eqs[1].E = chain(12) }, "y = if c then n else -5", "y = " + strings.Repeat("-(", 10) + "-a" + strings.Repeat(")", 10)},
		{func(p *api.Program) { p.Eqs[1].E = bush(120) }, "y = if c then n else -5", "y = " + full(bush(120), true)},
		{func(p *api.Program) { p.Eqs[1].First.Sub = []api.Expr{} }, "", ""},
		{func(p *api.Program) { p.Eqs[0].First.Sub = []api.Expr{} }, "", ""},
		{func(p *api.Program) { p.Ins = nil }, "x : int; c : bool", ""},
		{func(p *api.Program) { p.Ins = []api.Var{} }, "x : int; c : bool", ""},
		{func(p *api.Program) { p.Locals = p.Locals[:1] }, "  m : int when c;\n  k : bool unless c;\n", ""},
		{func(p *api.Program) { p.Locals = []api.Var{} }, "var\n  n : int;\n  m : int when c;\n  k : bool unless c;\n", ""},
		{func(p *api.Program) { p.Eqs = p.Eqs[:0] }, smallText[strings.Index(smallText, "let\n")+4 : len(smallText)-4], ""},
	} {
		p := small()
		c.change(&p)
		if !strings.Contains(smallText, c.old) {
			t.Fatal(i)
		}
		wantPrint(t, p, strings.Replace(smallText, c.old, c.text, 1))
	}
}

// sized is a valid program whose text has that many bytes.
func sized(size int) api.Program {
	p := api.Program{Name: "f"}
	left := size - len("node f () returns ();\nlet\ntel\n")
	for left > 0 {
		// A line "  a = 0;\n" has 8 bytes beside its name; what is left behind it is again enough for one.
		n := min(left-8, 16)
		if rest := left - 8 - n; rest > 0 && rest < 9 {
			n -= 9
		}
		p.Eqs = append(p.Eqs, api.Eq{Name: strings.Repeat("a", n), E: num(0)})
		left -= 8 + n
	}
	return p
}

// P13.4: the limit, on both sides; what is not valid is ErrForm, however long its text would be.
func TestPrintLimit(t *testing.T) {
	for size := 4080; size <= 4110; size++ {
		p := sized(size)
		s, e := Print(p)
		if size <= 4096 && (e != api.OK || len(s) != size) || size > 4096 && (e != api.ErrBig || s != "") {
			t.Errorf("%d: %d bytes, %d", size, len(s), e)
		}
		if size <= 4096 {
			wantProgram(t, s, p)
		}
		p.Eqs[len(p.Eqs)-1].Name = "if"
		if s, e := Print(p); e != api.ErrForm || s != "" {
			t.Errorf("%d: %d bytes, %d", size, len(s), e)
		}
	}
	many := small()
	many.Ins = slices.Repeat(many.Ins, 1000)
	if s, e := Print(many); e != api.ErrBig || s != "" {
		t.Error(len(s), e)
	}
	many = small()
	many.Locals = slices.Repeat(many.Locals, 100000)
	if s, e := Print(many); e != api.ErrBig || s != "" {
		t.Error(len(s), e)
	}
	many.Locals[len(many.Locals)-1].Type = 3
	if s, e := Print(many); e != api.ErrForm || s != "" {
		t.Error(len(s), e)
	}
}

// P13.5: each field makes a difference.
func TestSame(t *testing.T) {
	for i, change := range []func(p *api.Program){
		func(p *api.Program) { p.Name = "g" },
		func(p *api.Program) { p.Ins[0].Name = "y" },
		func(p *api.Program) { p.Ins[1].Type = 5 },
		func(p *api.Program) { p.Ins[1].Clock.Kind = 5 },
		func(p *api.Program) { p.Ins[1].Clock.Name = "x" },
		func(p *api.Program) { p.Ins = p.Ins[:1] },
		func(p *api.Program) { p.Ins = nil },
		func(p *api.Program) { p.Ins = append(p.Ins, api.Var{}) },
		func(p *api.Program) { slices.Reverse(p.Ins) },
		func(p *api.Program) { p.Ins, p.Outs = p.Outs, p.Ins },
		func(p *api.Program) { p.Outs[1].Name = "y" },
		func(p *api.Program) { p.Outs[0].Type = api.TBool },
		func(p *api.Program) { p.Outs = p.Outs[1:] },
		func(p *api.Program) { p.Locals[0].Name = "y" },
		func(p *api.Program) { p.Locals[1].Clock.Kind = api.Off },
		func(p *api.Program) { p.Locals[2].Clock.Name = "x" },
		func(p *api.Program) { p.Locals = nil },
		func(p *api.Program) { p.Eqs = nil },
		func(p *api.Program) { p.Eqs = p.Eqs[:5] },
		func(p *api.Program) { p.Eqs = append(p.Eqs, api.Eq{}) },
		func(p *api.Program) { slices.Reverse(p.Eqs) },
		func(p *api.Program) { p.Eqs[0].Name = "m" },
		func(p *api.Program) { p.Eqs[0].Delay = api.DPre },
		func(p *api.Program) { p.Eqs[0].First.N = 6 },
		func(p *api.Program) { p.Eqs[0].First.Kind = api.EBool },
		func(p *api.Program) { p.Eqs[4].First.Sub[0].N = 8 },
		func(p *api.Program) { p.Eqs[5].E.Name = "d" },
		func(p *api.Program) { p.Eqs[5].E.Sub[1].Name = "d" },
		func(p *api.Program) { p.Eqs[1].E.Sub[2].Sub[0].N = 6 },
	} {
		p := small()
		change(&p)
		if Same(p, small()) || Same(small(), p) {
			t.Errorf("%d: the same", i)
		}
		if !Same(p, p) {
			t.Errorf("%d: another than itself", i)
		}
	}
	if !Same(small(), small()) || !Same(api.Program{}, api.Program{}) {
		t.Error("not the same")
	}
	empty := api.Program{Ins: []api.Var{}, Outs: []api.Var{}, Locals: []api.Var{}, Eqs: []api.Eq{}}
	if !Same(empty, api.Program{}) || !Same(api.Program{}, empty) {
		t.Error("an empty slice is another than nil")
	}
	p := small()
	p.Eqs[0].First.Sub = []api.Expr{}
	p.Eqs[0].E.Sub[0].Sub = make([]api.Expr, 0, 9)
	if !Same(p, small()) || !Same(small(), p) {
		t.Error("an empty slice within is another than nil")
	}
}

// P13.5: expressions, valid or not.
func TestSameExpr(t *testing.T) {
	pool := func() []api.Expr {
		l := []api.Expr{{}, num(0), num(-1), truth(0), truth(1), a(), b(), {Kind: -7}, {Name: "a"}, {N: 1}, {Sub: []api.Expr{{}}}, {Sub: []api.Expr{{}, {}}}, {Sub: []api.Expr{{Kind: 1}, {}}}, {Sub: []api.Expr{{}, {Kind: 1}}}, {Sub: []api.Expr{{Sub: []api.Expr{{}}}}}}
		for _, w := range around() {
			l = append(l, w(a()), w(c()), w(w(c())))
		}
		return l
	}
	l, m := pool(), pool()
	for i := range l {
		for j := range m {
			if want := key(l[i]) == key(m[j]); SameExpr(l[i], m[j]) != want {
				t.Errorf("SameExpr(%v, %v) is not %v", l[i], m[j], want)
			}
		}
	}
	if !SameExpr(api.Expr{Sub: []api.Expr{}}, api.Expr{}) || !SameExpr(api.Expr{}, api.Expr{Sub: []api.Expr{}}) {
		t.Error("an empty slice is another than nil")
	}
	if deep := chain(1 << 16); !SameExpr(deep, chain(1<<16)) || SameExpr(deep, chain(1<<16-1)) {
		t.Error("deep")
	}
}

// key is all fields of an expression as text.
func key(x api.Expr) string {
	s := "(" + string(rune(x.Kind+1000)) + string(rune(x.N+1000)) + x.Name
	for _, p := range x.Sub {
		s += key(p)
	}
	return s + ")"
}

// roomy is a copy with spare capacity, which is filled with a token that could go on.
func roomy(l []api.Token) []api.Token {
	out := slices.Concat(l, slices.Repeat([]api.Token{{Kind: api.KMark, Text: "+", At: 9}}, 4))
	return out[:len(l)]
}

// R4: tokens are neither modified nor retained, and those behind them are not read.
func TestTokensStay(t *testing.T) {
	l := roomy(scanned(t, "if a + 1 then -b else merge c a b when c"))
	was := slices.Clone(l[:cap(l)])
	x, n, e, _ := Expr(l, 0, 0)
	if e != api.OK || n != len(l) || !slices.Equal(l[:cap(l)], was) {
		t.Fatal(e, n)
	}
	y, _, _, _ := Expr(slices.Clone(l), 0, 0)
	clear(l[:cap(l)])
	if !SameExpr(x, y) {
		t.Error("the tokens were retained")
	}
}

// R4: expressions and programs are not modified.
func TestArgumentsStay(t *testing.T) {
	p := small()
	p.Ins = append(make([]api.Var, 0, 9), p.Ins...)
	p.Eqs[1].E.Sub = append(make([]api.Expr, 0, 9), p.Eqs[1].E.Sub...)
	Print(p)
	Show(p.Eqs[1].E)
	Same(p, small())
	Right(p.Eqs[1].E)
	if !Same(p, small()) {
		t.Error("the program was modified")
	}
	for _, v := range p.Ins[:9][2:] {
		if v != (api.Var{}) {
			t.Error("the spare capacity was modified")
		}
	}
	for _, x := range p.Eqs[1].E.Sub[:9][3:] {
		if !SameExpr(x, api.Expr{}) {
			t.Error("the spare capacity was modified")
		}
	}
}

// apart wants no two slices below an expression to share memory, including spare capacity.
func apart(t *testing.T, x api.Expr, seen map[*api.Expr]bool) {
	t.Helper()
	all := x.Sub[:cap(x.Sub)]
	for i := range all {
		if seen[&all[i]] {
			t.Fatal("shared memory")
		}
		seen[&all[i]] = true
	}
	for _, p := range x.Sub {
		apart(t, p, seen)
	}
}

// R4: no two slices of a result share memory, and no two results do.
func TestResultsAreNew(t *testing.T) {
	exprs, eqs, vars := map[*api.Expr]bool{}, map[*api.Eq]bool{}, map[*api.Var]bool{}
	for range 2 {
		p, e, _ := Parse(smallText)
		if e != api.OK {
			t.Fatal(e)
		}
		for _, l := range [][]api.Var{p.Ins, p.Outs, p.Locals} {
			all := l[:cap(l)]
			for i := range all {
				if vars[&all[i]] {
					t.Fatal("shared memory")
				}
				vars[&all[i]] = true
			}
		}
		all := p.Eqs[:cap(p.Eqs)]
		for i := range all {
			if eqs[&all[i]] {
				t.Fatal("shared memory")
			}
			eqs[&all[i]] = true
			apart(t, all[i].First, exprs)
			apart(t, all[i].E, exprs)
		}
	}
}

// R4: a result keeps no text of an argument.
func TestNamesAreNew(t *testing.T) {
	shared := func(s, u string) bool { return unsafe.StringData(s) == unsafe.StringData(u) }
	l := scanned(t, "merge first second when third")
	l = append(l, scanned(t, "fourth unless fifth")...)
	x, _, e, _ := Expr(l, 0, 0)
	if e != api.OK {
		t.Fatal(e)
	}
	if shared(x.Name, l[1].Text) || shared(x.Sub[0].Name, l[4].Text) || shared(x.Sub[0].Sub[0].Name, l[2].Text) || shared(x.Sub[1].Name, l[7].Text) {
		t.Error("a name of a token")
	}
	if s, _ := Show(x.Sub[0].Sub[0]); shared(s, x.Sub[0].Sub[0].Name) {
		t.Error("a name of an expression")
	}
}

// R1: tokens in any number, and 2^16 levels of them.
func TestManyTokens(t *testing.T) {
	const levels = 1 << 16
	for _, c := range []struct{ before, middle, behind string }{
		{"(", "a", ")"},
		{"- (", "a", ")"},
		{"not", "a", ""},
		{"a ->", "a", ""},
		{"a +", "a", ""},
		{"", "a", "when b"},
		{"if", "a", "then b else c"},
		{"if a then b else", "a", ""},
		{"merge a", "b", "c"},
		{"merge a b", "c", ""},
	} {
		l := slices.Concat(slices.Repeat(scanned(t, c.before), levels), scanned(t, c.middle), slices.Repeat(scanned(t, c.behind), levels))
		x, n, e, at := Expr(l, 0, -5)
		if e != api.OK || n != len(l) || at != 0 || !SameExpr(x, x) {
			t.Errorf("%v: %d, %d, %d", c, n, e, at)
		}
		if want := c.before != "("; (Right(x) == api.ErrBig) != want {
			t.Errorf("%v: %d", c, Right(x))
		}
		if _, n, e, at := Expr(l[:len(l)-1], 0, -5); n == 0 && (e != api.ErrToken || at != -5) {
			t.Errorf("%v: %d, %d", c, e, at)
		}
	}
}

// R1: programs of anything.
func TestAnything(t *testing.T) {
	odd := []api.Program{
		{},
		{Name: "\xff", Ins: make([]api.Var, 100000)},
		{Name: "f", Outs: make([]api.Var, 100000), Eqs: make([]api.Eq, 100000)},
		{Name: "f", Eqs: []api.Eq{{Name: "a", Delay: math.MinInt, First: chain(1 << 16), E: chain(1 << 16)}}},
		{Name: "f", Eqs: []api.Eq{{Name: "a", Delay: api.DFby, First: wide(1 << 16), E: a()}}},
		{Name: "f", Eqs: []api.Eq{{Name: "a", First: chain(1 << 16), E: a()}}},
	}
	for i, p := range odd {
		if s, e := Print(p); s != "" || e != api.ErrForm {
			t.Errorf("%d: %q, %d", i, s, e)
		}
		for j, q := range odd {
			if Same(p, q) != (i == j) {
				t.Errorf("%d, %d: %v", i, j, Same(p, q))
			}
		}
	}
	for b := range 256 {
		for _, s := range []string{string([]byte{byte(b)}), smallText + string([]byte{byte(b)}), string([]byte{byte(b)}) + smallText} {
			_, e, at := Parse(s)
			if e == api.OK && !strings.Contains(" \t\n\r", string([]byte{byte(b)})) || at < 0 || at > len(s) {
				t.Errorf("%q: %d, %d", s, e, at)
			}
		}
	}
}
