package kinds

import (
	"math"
	"slices"
	"strings"
	"testing"
	"unsafe"

	"midstream/api"
	"midstream/lex"
	"midstream/tree"
)

func num(n int32) api.Expr { return api.Expr{Kind: api.ENum, N: n} }

func truth(n int32) api.Expr { return api.Expr{Kind: api.EBool, N: n} }

func variable(s string) api.Expr { return api.Expr{Kind: api.EVar, Name: s} }

func un(op int32, e api.Expr) api.Expr {
	return api.Expr{Kind: api.EUn, N: op, Sub: []api.Expr{e}}
}

func bin(op int32, a, b api.Expr) api.Expr {
	return api.Expr{Kind: api.EBin, N: op, Sub: []api.Expr{a, b}}
}

func decl(name string, t int) api.Var { return api.Var{Name: name, Type: t} }

// expr is the expression of a text.
func expr(t *testing.T, s string) api.Expr {
	t.Helper()
	l, e, at := lex.Scan(s)
	if e != api.OK {
		t.Fatalf("Scan(%q): %d, %d", s, e, at)
	}
	x, n, e, at := tree.Expr(l, 0, len(s))
	if e != api.OK || n != len(l) {
		t.Fatalf("Expr(%q): %d, %d, %d", s, n, e, at)
	}
	return x
}

func exprs(t *testing.T, texts ...string) []api.Expr {
	t.Helper()
	var out []api.Expr
	for _, s := range texts {
		out = append(out, expr(t, s))
	}
	return out
}

// program is that of a text.
func program(t *testing.T, s string) api.Program {
	t.Helper()
	p, e, at := tree.Parse(s)
	if e != api.OK {
		t.Fatalf("Parse(%q): %d, %d", s, e, at)
	}
	return p
}

// some are variables of all sorts: of each type, of types that are none, and of one name more than once.
func some() []api.Var {
	return []api.Var{
		decl("i", api.TInt),
		decl("b", api.TBool),
		decl("o", 0),
		decl("q", 3),
		decl("m", -1),
		decl("i", api.TBool),
		decl("b", api.TInt),
		decl("o", api.TInt),
		decl("q", api.TBool),
	}
}

func wantOf(t *testing.T, e api.Expr, vars []api.Var, k int, wrong api.Errno) {
	t.Helper()
	if got, f := Of(e, vars); got != k || f != wrong {
		s, _ := tree.Show(e)
		t.Errorf("Of(%q) = %d, %d, want %d, %d", s, got, f, k, wrong)
	}
}

func wantCheck(t *testing.T, p api.Program, want api.Fault) {
	t.Helper()
	if got := Check(p); got != want {
		s, e := tree.Print(p)
		t.Errorf("Check(%.400q, %d) = %v, want %v", s, e, got, want)
	}
}

// P14.1: inputs, outputs and local variables, in this order, whole.
func TestVars(t *testing.T) {
	p := program(t, "node f (c : int; a : bool) returns (d : int; b : bool); var y : int; x : bool when a; z : int unless b; let tel")
	want := []api.Var{
		decl("c", api.TInt), decl("a", api.TBool), decl("d", api.TInt), decl("b", api.TBool), decl("y", api.TInt),
		{Name: "x", Type: api.TBool, Clock: api.Clock{Kind: api.On, Name: "a"}},
		{Name: "z", Type: api.TInt, Clock: api.Clock{Kind: api.Off, Name: "b"}},
	}
	if got := Vars(p); !slices.Equal(got, want) {
		t.Errorf("%v, want %v", got, want)
	}
	for _, c := range []struct {
		p    api.Program
		want []api.Var
	}{
		{api.Program{}, nil},
		{api.Program{Ins: []api.Var{}, Outs: []api.Var{}, Locals: []api.Var{}}, nil},
		{api.Program{Ins: want}, want},
		{api.Program{Outs: want}, want},
		{api.Program{Locals: want}, want},
		{api.Program{Ins: want[:1], Locals: want[1:]}, want},
		{api.Program{Eqs: []api.Eq{{Name: "a"}}}, nil},
	} {
		if got := Vars(c.p); !slices.Equal(got, c.want) {
			t.Errorf("%v, want %v", got, c.want)
		}
	}
}

// P14.1: Vars holds for a program that is not valid, too.
func TestVarsOfAnything(t *testing.T) {
	odd := []api.Var{
		{},
		{Name: "\xff", Type: math.MinInt, Clock: api.Clock{Kind: math.MaxInt, Name: "if"}},
		decl("a", 7),
		decl("a", 7),
	}
	p := api.Program{Ins: odd, Outs: slices.Repeat(odd, 1000), Locals: odd[1:]}
	if got := Vars(p); !slices.Equal(got, slices.Concat(odd, slices.Repeat(odd, 1000), odd[1:])) {
		t.Errorf("%d variables", len(got))
	}
}

// P14.1: the rules, one by one.
func TestOfTypes(t *testing.T) {
	const i, b = api.TInt, api.TBool
	for s, want := range map[string]int{
		"0":                        i,
		"2147483647":               i,
		"true":                     b,
		"false":                    b,
		"i":                        i,
		"b":                        b,
		"-i":                       i,
		"- - 5":                    i,
		"not b":                    b,
		"not not true":             b,
		"-b":                       0,
		"not i":                    0,
		"not 0":                    0,
		"i + 1":                    i,
		"i - 1":                    i,
		"i * 1":                    i,
		"i / 0":                    i,
		"i % 0":                    i,
		"i << 40":                  i,
		"i >> 40":                  i,
		"b + b":                    0,
		"b >> 1":                   0,
		"1 << b":                   0,
		"i & 1":                    i,
		"i | 1":                    i,
		"i ^ 1":                    i,
		"b & true":                 b,
		"b | true":                 b,
		"b ^ true":                 b,
		"b & 1":                    0,
		"i ^ b":                    0,
		"i = 1":                    b,
		"i <> 1":                   b,
		"b = true":                 b,
		"b <> true":                b,
		"b = 1":                    0,
		"i <> false":               0,
		"i < 1":                    b,
		"i <= 1":                   b,
		"i > 1":                    b,
		"i >= 1":                   b,
		"b < true":                 0,
		"b >= b":                   0,
		"i > b":                    0,
		"(i < 1) = b":              b,
		"if b then 1 else i":       i,
		"if b then b else false":   b,
		"if i then 1 else i":       0,
		"if b then 1 else b":       0,
		"if b then b else 1":       0,
		"if i < 1 then 1 else 2":   i,
		"0 -> i":                   i,
		"true -> b":                b,
		"true -> i":                0,
		"0 -> 1 -> true":           0,
		"i when b":                 i,
		"b when b":                 b,
		"i unless b":               i,
		"b unless b":               b,
		"i when i":                 0,
		"b unless i":               0,
		"i when b unless b":        i,
		"merge b i 1":              i,
		"merge b b true":           b,
		"merge b i true":           0,
		"merge b b 1":              0,
		"merge i 1 1":              0,
		"merge i b b":              0,
		"merge b (i when b) 0 = 0": b,
		"(i when b) + (i when b)":  i,
	} {
		wrong := api.OK
		if want == 0 {
			wrong = api.ErrType
		}
		wantOf(t, expr(t, s), []api.Var{decl("i", i), decl("b", b)}, want, wrong)
	}
}

// P14.1: the variable of a name is the first one; it needs a type that there is.
func TestOfVariables(t *testing.T) {
	const i, b, ok, name, kind = api.TInt, api.TBool, api.OK, api.ErrName, api.ErrType
	for _, c := range []struct {
		text  string
		want  int
		wrong api.Errno
	}{
		{"i", i, ok},
		{"b", b, ok},
		{"o", 0, kind},
		{"q", 0, kind},
		{"m", 0, kind},
		{"z", 0, name},
		{"ii", 0, name},
		{"q = q", 0, kind},
		{"o -> o", 0, kind},
		{"i when b", i, ok},
		{"i when q", 0, kind},
		{"i unless o", 0, kind},
		{"i unless i", 0, kind},
		{"i when z", 0, name},
		{"i unless z", 0, name},
		{"merge b i i", i, ok},
		{"merge q i i", 0, kind},
		{"merge m i i", 0, kind},
		{"merge i b b", 0, kind},
		{"merge z i i", 0, name},
		{"merge z i b", 0, name},
	} {
		wantOf(t, expr(t, c.text), some(), c.want, c.wrong)
	}
	wantOf(t, num(1), nil, i, ok)
	wantOf(t, variable("i"), nil, 0, name)
	wantOf(t, variable("i"), []api.Var{}, 0, name)
	long := "abcdefghijklmno"
	vars := []api.Var{decl(long, i), decl(long+"p", b), decl(long+"q", i), decl("a", b), decl("", b)}
	wantOf(t, variable(long), vars, i, ok)
	wantOf(t, variable(long+"p"), vars, b, ok)
	wantOf(t, variable(long+"q"), vars, i, ok)
	wantOf(t, variable(long+"r"), vars, 0, name)
	wantOf(t, variable(long[:14]), vars, 0, name)
	wantOf(t, num(1), vars, i, ok)
}

// P14.1: a clock of a variable is not what Of is about.
func TestOfClocks(t *testing.T) {
	vars := []api.Var{
		{Name: "x", Type: api.TInt, Clock: api.Clock{Kind: api.On, Name: "z"}},
		{Name: "c", Type: api.TBool, Clock: api.Clock{Kind: 9, Name: "x"}},
	}
	wantOf(t, expr(t, "x when c"), vars, api.TInt, api.OK)
	wantOf(t, expr(t, "x + 1 -> merge c x x"), vars, api.TInt, api.OK)
}

// P14.1: the first expression without a type, where parts come before the whole.
func TestOfFirstError(t *testing.T) {
	const name, kind = api.ErrName, api.ErrType
	for s, want := range map[string]api.Errno{
		"z + b":                       name,
		"b + z":                       name,
		"-b + z":                      kind,
		"z + -b":                      name,
		"b + 1 -> z":                  kind,
		"z -> b + 1":                  name,
		"(-b) when z":                 kind,
		"-b when z":                   name,
		"b when z":                    name,
		"z when z":                    name,
		"z when i":                    name,
		"(i when i) when z":           kind,
		"(i when z) when i":           name,
		"merge z (-b) i":              kind,
		"merge z i (-b)":              kind,
		"merge i (-b) z":              kind,
		"merge i z (-b)":              name,
		"merge z b 1":                 name,
		"merge i b 1":                 kind,
		"if z then -b else i":         name,
		"if -b then z else i":         kind,
		"if i then z else i":          name,
		"if i then -b else z":         kind,
		"if i then b else z":          name,
		"if i then b else i":          kind,
		"not (i + (b + z))":           name,
		"not (i + (b + 1)) | z":       kind,
		"(1 = true) -> (z when z)":    kind,
		"1 -> (true -> (2 -> z))":     name,
		"1 -> (true -> (2 -> -b))":    kind,
		"merge b (z unless i) (-b)":   name,
		"merge b (b unless i) z":      kind,
		"(if b then 1 else b) when z": kind,
	} {
		wantOf(t, expr(t, s), some(), 0, want)
	}
}

// built is all expressions that consist of some parts and one more expression.
func built(parts []api.Expr, names []string) []api.Expr {
	var out []api.Expr
	for _, a := range parts {
		out = append(out, un(api.UnNeg, a), un(api.UnNot, a))
		for _, s := range names {
			out = append(out, api.Expr{Kind: api.EWhen, Name: s, Sub: []api.Expr{a}}, api.Expr{Kind: api.EUnless, Name: s, Sub: []api.Expr{a}})
		}
		for _, b := range parts {
			for op := int32(api.OpAdd); op <= api.OpGe; op++ {
				out = append(out, bin(op, a, b))
			}
			out = append(out, api.Expr{Kind: api.EArrow, Sub: []api.Expr{a, b}})
			for _, s := range names {
				out = append(out, api.Expr{Kind: api.EMerge, Name: s, Sub: []api.Expr{a, b}})
			}
			for _, c := range parts {
				out = append(out, api.Expr{Kind: api.EIf, Sub: []api.Expr{a, b, c}})
			}
		}
	}
	return out
}

func names() []string { return []string{"i", "b", "o", "q", "m", "z"} }

func leaves() []api.Expr {
	out := []api.Expr{num(0), num(7), truth(0), truth(1)}
	for _, s := range names() {
		out = append(out, variable(s))
	}
	return out
}

// pieces have one of each outcome, from one level and from two.
func pieces(t *testing.T) []api.Expr {
	return exprs(t, "1", "b", "z", "q", "i + 1", "not b", "i when b", "b unless b", "-b", "i when z", "z when i", "merge b 1 b", "i = z")
}

// P14.1: all expressions of two levels, and all of three of pieces.
func TestOfAll(t *testing.T) {
	count := 0
	for _, e := range slices.Concat(leaves(), built(leaves(), names()), built(pieces(t), names())) {
		k, wrong := modelOf(e, some())
		wantOf(t, e, some(), k, wrong)
		if k != 0 {
			count++
		}
	}
	if count < 500 {
		t.Errorf("only %d expressions with a type", count)
	}
}

// P14.1: an expression of all kinds, with each combination of what may be wrong at its leaves.
func TestOfPlaces(t *testing.T) {
	bad := func(good string) []string { return []string{good, "z", "(1 & true)"} }
	for _, a := range bad("i") {
		for _, b := range bad("2") {
			for _, c := range bad("b") {
				for _, d := range bad("true") {
					for _, f := range bad("i") {
						for _, w := range []string{"b", "z", "i"} {
							s := "if " + c + " -> not " + d + " then -" + a + " + (" + b + " when " + w + ") else merge " + w + " (" + f + ") (" + a + " unless b)"
							e := expr(t, s)
							k, wrong := modelOf(e, some())
							wantOf(t, e, some(), k, wrong)
						}
					}
				}
			}
		}
	}
}

func chain(levels int) api.Expr {
	x := variable("z")
	for range levels - 1 {
		x = un(api.UnNot, x)
	}
	return x
}

// bush is n leaves in a tree that is as flat as it can be.
func bush(n int, leaf api.Expr) api.Expr {
	if n == 1 {
		return leaf
	}
	return bin(api.OpAdd, bush(n/2, leaf), bush(n-n/2, leaf))
}

// P14.1: the error of tree.Right comes before all others.
func TestOfRight(t *testing.T) {
	for _, c := range []struct {
		e    api.Expr
		want api.Errno
	}{
		{api.Expr{}, api.ErrForm},
		{chain(12), api.ErrName},
		{chain(13), api.ErrDeep},
		{chain(1 << 16), api.ErrBig},
		{bush(60, truth(1)), api.ErrType},
		{bush(61, truth(1)), api.ErrBig},
		{bin(api.OpAdd, truth(1), num(-1)), api.ErrForm},
		{bin(api.OpAdd, variable("z"), truth(2)), api.ErrForm},
		{bin(0, variable("z"), num(1)), api.ErrForm},
		{bin(api.Ops, num(1), num(1)), api.ErrForm},
		{un(api.Uns, num(1)), api.ErrForm},
		{variable("if"), api.ErrForm},
		{variable(""), api.ErrForm},
		{api.Expr{Kind: api.ENum, Name: "i"}, api.ErrForm},
		{api.Expr{Kind: api.EBin, N: api.OpAdd, Sub: []api.Expr{num(1)}}, api.ErrForm},
		{api.Expr{Kind: api.EBin, N: api.OpAdd}, api.ErrForm},
		{api.Expr{Kind: api.EUn, N: api.UnNeg}, api.ErrForm},
		{api.Expr{Kind: api.EIf, Sub: []api.Expr{truth(1), num(1)}}, api.ErrForm},
		{api.Expr{Kind: api.EMerge, Name: "b", Sub: []api.Expr{num(1)}}, api.ErrForm},
		{api.Expr{Kind: api.EWhen, Name: "b"}, api.ErrForm},
		{api.Expr{Kind: api.EWhen, Sub: []api.Expr{num(1)}}, api.ErrForm},
		{api.Expr{Kind: api.Kinds}, api.ErrForm},
		{api.Expr{Kind: math.MinInt, N: math.MinInt32}, api.ErrForm},
		{api.Expr{Kind: api.EIf, Sub: make([]api.Expr, 1<<20)}, api.ErrBig},
	} {
		wantOf(t, c.e, some(), 0, c.want)
		// Also where another part, or the whole, has no type.
		whole := bin(api.OpAdd, variable("z"), c.e)
		wrong := tree.Right(whole)
		if wrong == api.OK {
			t.Errorf("%.200v is valid", whole)
		}
		wantOf(t, whole, append(some(), decl("if", 1), decl("", 1)), 0, wrong)
	}
}

// P14.1: the greatest expressions that there are.
func TestOfGreatest(t *testing.T) {
	e := un(api.UnNeg, bush(60, variable("i")))
	wantOf(t, e, some(), api.TInt, api.OK)
	deep := variable("b")
	for range 11 {
		deep = un(api.UnNot, deep)
	}
	wantOf(t, deep, some(), api.TBool, api.OK)
	shared := num(1)
	for range 64 {
		shared = bin(api.OpAdd, shared, shared)
	}
	wantOf(t, shared, some(), 0, api.ErrBig)
}

// P14.3: parts of what has a type have one, and variables with other names change nothing.
func TestProperties(t *testing.T) {
	more := []api.Var{decl("a", api.TInt), decl("ib", api.TBool), decl("", api.TInt), decl("y", 0), decl("if", api.TBool)}
	for _, e := range slices.Concat(leaves(), built(leaves(), names()), built(pieces(t), names())) {
		k, wrong := Of(e, some())
		if wrong != api.OK {
			continue
		}
		for _, part := range e.Sub {
			if n, wrong := Of(part, some()); wrong != api.OK || n == 0 {
				t.Errorf("the part %v of %v: %d, %d", part, e, n, wrong)
			}
		}
		for n := range len(some()) + 1 {
			wantOf(t, e, slices.Insert(some(), n, more...), k, api.OK)
		}
	}
}

// P14.2: programs without a fault.
func TestCheckOK(t *testing.T) {
	for _, s := range []string{
		"node f () returns (); let tel",
		"node f (x : int) returns (); let tel",
		"node f (x : int) returns (y : int); let y = x; tel",
		"node f () returns (y : int); let y = 5 fby y + 1; tel",
		"node f () returns (y : int); let y = -5 fby y; tel",
		"node f () returns (y : bool); let y = false fby not y; tel",
		"node f () returns (y : bool); let y = pre y; tel",
		"node f () returns (y : int); let y = y; tel",
		"node f (x : int) returns (y : int); var n : int; let n = 0 fby y; y = n + x; tel",
		"node f (x : int) returns (y : int); var n : int; let y = n + x; n = 0 fby y; tel",
		"node f (b : bool) returns (y : int); var n : int when b; m : int unless b; let y = merge b n m; n = 1; m = 2; tel",
		// Clocks, orders and first values are not what Check is about.
		"node f (b : bool) returns (y : int); var n : int when z; let y = n; n = y; tel",
		"node f (b : bool) returns (y : int); let y = merge b (1 when b) 2 when b; tel",
		// The program's own name may be that of a variable.
		"node f (f : int) returns (y : int); let y = f; tel",
	} {
		wantCheck(t, program(t, s), api.Fault{})
	}
}

// P14.2: each fault, and which of two comes first.
func TestCheckFaults(t *testing.T) {
	for s, want := range map[string]api.Fault{
		"node f (x : int) returns (x : int); let x = 1; tel":                                         {Part: 2, At: 1, E: api.ErrTwice},
		"node f (x : int; x : bool) returns (); let tel":                                             {Part: 2, At: 1, E: api.ErrTwice},
		"node f () returns (y : int; y : int); let y = 1; tel":                                       {Part: 2, At: 1, E: api.ErrTwice},
		"node f (a : int) returns (y : int); var b : int; a : int; y : int; let tel":                 {Part: 2, At: 3, E: api.ErrTwice},
		"node f (a : int; b : int) returns (b : int); var a : int; let q = q; tel":                   {Part: 2, At: 2, E: api.ErrTwice},
		"node f (a : int) returns (); var b : int; b : int; a : int; let a = 1; tel":                 {Part: 2, At: 2, E: api.ErrTwice},
		"node f () returns (y : int); let z = 1; y = 1; tel":                                         {Part: 3, At: 0, E: api.ErrName},
		"node f () returns (y : int); let y = 1; z = true + 1; tel":                                  {Part: 3, At: 1, E: api.ErrName},
		"node f (x : int) returns (y : int); let y = 1; x = 1; tel":                                  {Part: 3, At: 1, E: api.ErrName},
		"node f (x : int) returns (y : int); let y = 1; x = 1; x = 1; tel":                           {Part: 3, At: 1, E: api.ErrName},
		"node f () returns (y : int); let z = 1; z = 1; tel":                                         {Part: 3, At: 0, E: api.ErrName},
		"node f () returns (f : int); let y = f; tel":                                                {Part: 3, At: 0, E: api.ErrName},
		"node f () returns (y : int); let y = 1; y = 1; tel":                                         {Part: 3, At: 1, E: api.ErrTwice},
		"node f () returns (y : int); let y = 1; y = z; tel":                                         {Part: 3, At: 1, E: api.ErrTwice},
		"node f () returns (y : int); var n : int; let y = 1; n = 1; y = true; tel":                  {Part: 3, At: 2, E: api.ErrTwice},
		"node f () returns (y : int); var n : int; let y = 1; n = true; y = 1; tel":                  {Part: 3, At: 1, E: api.ErrType},
		"node f () returns (y : int); let y = z; tel":                                                {Part: 3, At: 0, E: api.ErrName},
		"node f () returns (y : int); let y = pre z; tel":                                            {Part: 3, At: 0, E: api.ErrName},
		"node f () returns (y : int); let y = true fby z; tel":                                       {Part: 3, At: 0, E: api.ErrName},
		"node f () returns (y : int); let y = true fby y + true; tel":                                {Part: 3, At: 0, E: api.ErrType},
		"node f () returns (y : int); let y = 1 when y; tel":                                         {Part: 3, At: 0, E: api.ErrType},
		"node f () returns (y : int); let y = true; tel":                                             {Part: 3, At: 0, E: api.ErrType},
		"node f () returns (y : bool); let y = 1; tel":                                               {Part: 3, At: 0, E: api.ErrType},
		"node f () returns (y : bool); let y = pre 1; tel":                                           {Part: 3, At: 0, E: api.ErrType},
		"node f () returns (y : int); let y = 1 fby true; tel":                                       {Part: 3, At: 0, E: api.ErrType},
		"node f () returns (y : int); let y = true fby 1; tel":                                       {Part: 3, At: 0, E: api.ErrType},
		"node f () returns (y : int); let y = true fby true; tel":                                    {Part: 3, At: 0, E: api.ErrType},
		"node f () returns (y : bool); let y = 0 fby true; tel":                                      {Part: 3, At: 0, E: api.ErrType},
		"node f () returns (y : bool); let y = -1 fby true; tel":                                     {Part: 3, At: 0, E: api.ErrType},
		"node f (b : bool) returns (y : int); var n : bool; let y = merge b (1 when b) n; tel":       {Part: 3, At: 0, E: api.ErrType},
		"node f () returns (y : int); let tel":                                                       {Part: 2, At: 0, E: api.ErrNone},
		"node f (x : int) returns (y : int; z : int); let z = y; tel":                                {Part: 2, At: 1, E: api.ErrNone},
		"node f (x : int) returns (y : int; z : int); let y = z; tel":                                {Part: 2, At: 2, E: api.ErrNone},
		"node f (x : int) returns (y : int); var n : int; m : int; let y = n; m = n; tel":            {Part: 2, At: 2, E: api.ErrNone},
		"node f (x : int) returns (y : int); var n : int; m : int; let y = true; m = n; tel":         {Part: 3, At: 0, E: api.ErrType},
		"node f (x : int; w : bool) returns (); var n : int; m : int when w; let m = n when w; tel":  {Part: 2, At: 2, E: api.ErrNone},
		"node f (x : int; w : bool) returns (); var n : int; m : int when n; let m = n; tel":         {Part: 2, At: 2, E: api.ErrNone},
		"node f (x : int; x : int) returns (y : int); var n : int; let z = 1; y = true; y = 1; tel":  {Part: 2, At: 1, E: api.ErrTwice},
		"node f (x : int; w : int) returns (y : int); var n : int; let y = 1; z = 1; y = true; tel":  {Part: 3, At: 1, E: api.ErrName},
		"node f (x : int; w : int) returns (y : bool); var n : int; let y = x < 1; n = w < 1; tel":   {Part: 3, At: 1, E: api.ErrType},
		"node f (i : int) returns (y : bool); var n : int; let n = if y then i else y; y = n; tel":   {Part: 3, At: 0, E: api.ErrType},
		"node f (i : int) returns (y : bool); var n : int; let n = if y then i else i; y = n; tel":   {Part: 3, At: 1, E: api.ErrType},
		"node f (i : int) returns (y : bool); var n : int; let n = if y then i else i; y = n<0; tel": {},
	} {
		wantCheck(t, program(t, s), want)
	}
}

func eqs(names string) []api.Eq {
	var out []api.Eq
	for _, s := range strings.Fields(names) {
		out = append(out, api.Eq{Name: s, E: num(1)})
	}
	return out
}

// P14.2: a program that is not valid, or whose text is too long, whatever else is wrong.
func TestCheckPrint(t *testing.T) {
	form, big := api.Fault{Part: 4, E: api.ErrForm}, api.Fault{Part: 4, E: api.ErrBig}
	ports := slices.Repeat([]api.Var{decl("a", api.TInt)}, 9)
	for _, c := range []struct {
		p    api.Program
		want api.Fault
	}{
		{api.Program{}, form},
		{api.Program{Name: "let"}, form},
		{api.Program{Name: "let", Ins: ports}, form},
		{api.Program{Name: "f", Ins: ports}, big},
		{api.Program{Name: "f", Ins: append(slices.Clone(ports), decl("a", 3))}, form},
		{api.Program{Name: "f", Outs: []api.Var{decl("A", api.TInt)}, Eqs: eqs("A")}, form},
		{api.Program{Name: "f", Outs: []api.Var{decl("a", 0)}, Eqs: eqs("a")}, form},
		{api.Program{Name: "f", Outs: []api.Var{decl("a", api.TInt), decl("a", 0)}}, form},
		{api.Program{Name: "f", Locals: []api.Var{{Name: "a", Type: api.TInt, Clock: api.Clock{Name: "a"}}}, Eqs: eqs("a")}, form},
		{api.Program{Name: "f", Ins: []api.Var{{Name: "a", Type: api.TInt, Clock: api.Clock{Kind: api.On, Name: "a"}}}}, form},
		{api.Program{Name: "f", Eqs: eqs("A")}, form},
		{api.Program{Name: "f", Eqs: []api.Eq{{Name: "a"}}}, form},
		{api.Program{Name: "f", Eqs: []api.Eq{{Name: "a", Delay: 3, E: num(1)}}}, form},
		{api.Program{Name: "f", Eqs: []api.Eq{{Name: "a", Delay: api.DFby, E: num(1)}}}, form},
		{api.Program{Name: "f", Eqs: []api.Eq{{Name: "a", Delay: api.DFby, First: bin(api.OpAdd, num(1), num(1)), E: num(1)}}}, form},
		{api.Program{Name: "f", Eqs: []api.Eq{{Name: "a", First: num(1), E: num(1)}}}, form},
		{api.Program{Name: "f", Eqs: []api.Eq{{Name: "a", E: chain(13)}}}, form},
		{api.Program{Name: "f", Eqs: []api.Eq{{Name: "a", E: chain(1 << 16)}}}, form},
		{api.Program{Name: "f", Eqs: []api.Eq{{Name: "a", E: bush(61, num(1))}}}, form},
		{api.Program{Name: "f", Eqs: eqs(strings.Repeat("z ", 1000))}, big},
		{api.Program{Name: "f", Locals: slices.Repeat([]api.Var{decl("a", api.TInt)}, 100000), Eqs: eqs("z")}, big},
	} {
		wantCheck(t, c.p, c.want)
	}
}

// P14.2: a text of exactly 4096 bytes is not too long.
func TestCheckText(t *testing.T) {
	for size := 4090; size <= 4100; size++ {
		p := api.Program{Name: "f", Outs: []api.Var{decl("y", api.TInt)}}
		// A line of 9 bytes for each equation, and one whose name makes up for the rest.
		p.Eqs = eqs("y" + strings.Repeat(" q", 449))
		s, _ := tree.Print(p)
		p.Eqs[1].Name += strings.Repeat("q", size-len(s))
		if s, _ := tree.Print(p); size <= 4096 && len(s) != size {
			t.Fatal(len(s))
		}
		want := api.Fault{Part: 3, At: 1, E: api.ErrName}
		if size > 4096 {
			want = api.Fault{Part: 4, E: api.ErrBig}
		}
		wantCheck(t, p, want)
	}
}

// many are n variables with names of their own, which begin with a letter of each list's own.
func many(letter string, n int) []api.Var {
	var out []api.Var
	for i := range n {
		out = append(out, decl(letter+strings.Repeat("x", i/8)+string(rune('0'+i%8)), api.TInt))
	}
	return out
}

// P14.2: the limits, on both sides.
func TestCheckLimits(t *testing.T) {
	for ins := range 11 {
		for outs := range 11 {
			for locals := range 28 {
				p := api.Program{Name: "f", Ins: many("i", ins), Outs: many("o", outs), Locals: many("l", locals)}
				for _, v := range slices.Concat(p.Outs, p.Locals) {
					p.Eqs = append(p.Eqs, eqs(v.Name)...)
				}
				var want api.Fault
				if ins > 8 || outs > 8 || ins+outs+locals > 24 {
					want = api.Fault{Part: 4, E: api.ErrBig}
				}
				wantCheck(t, p, want)
				if len(p.Eqs) == 0 {
					continue
				}
				// What is too much comes before what is wrong.
				p.Eqs[0].Name = "z"
				if want.E == api.OK {
					want = api.Fault{Part: 3, At: 0, E: api.ErrName}
				}
				wantCheck(t, p, want)
				if locals == 0 {
					continue
				}
				p.Locals[locals-1].Name = slices.Concat(p.Ins, p.Outs, p.Locals)[0].Name
				if want.E == api.ErrName && ins+outs+locals > 1 {
					want = api.Fault{Part: 2, At: ins + outs + locals - 1, E: api.ErrTwice}
				}
				wantCheck(t, p, want)
			}
		}
	}
}

// lists are all lists of up to most of the items.
func lists[T any](items []T, most int) [][]T {
	out := [][]T{nil}
	last := out
	for range most {
		var longer [][]T
		for _, l := range last {
			for _, x := range items {
				longer = append(longer, append(slices.Clone(l), x))
			}
		}
		out = append(out, longer...)
		last = longer
	}
	return out
}

func vars(names ...string) []api.Var {
	var out []api.Var
	for _, s := range names {
		out = append(out, decl(s, api.TInt), decl(s, api.TBool))
	}
	return out
}

func equations(t *testing.T, names []string) []api.Eq {
	var out []api.Eq
	for _, s := range names {
		for _, e := range exprs(t, "1", "true", "a", "c", "b = 1") {
			out = append(out, api.Eq{Name: s, E: e})
		}
		for _, first := range exprs(t, "-1", "true") {
			for _, e := range exprs(t, "0", "false", "a when b") {
				out = append(out, api.Eq{Name: s, Delay: api.DFby, First: first, E: e})
			}
		}
		out = append(out, api.Eq{Name: s, Delay: api.DPre, E: num(2)}, api.Eq{Name: s, Delay: api.DPre, E: expr(t, "a -> c")})
	}
	return out
}

// P14.2: all programs of few variables and equations.
func TestCheckAll(t *testing.T) {
	eqLists := lists(equations(t, []string{"a", "b", "c"}), 2)
	varLists := lists(vars("a", "b"), 1)
	for _, ins := range varLists {
		for _, outs := range varLists {
			for _, locals := range varLists {
				for _, eqs := range eqLists {
					p := api.Program{Name: "f", Ins: ins, Outs: outs, Locals: locals, Eqs: eqs}
					if got, want := Check(p), modelCheck(p); got != want {
						t.Fatalf("Check(%v) = %v, want %v", p, got, want)
					}
				}
			}
		}
	}
}

// P14.2: all programs of few names, with longer lists of variables and of equations.
func TestCheckNames(t *testing.T) {
	one := []api.Var{decl("a", api.TInt), decl("b", api.TInt), decl("c", api.TInt)}
	eqLists := lists(slices.Concat(eqs("a b c d"), []api.Eq{{Name: "b", E: truth(1)}, {Name: "a", E: variable("d")}}), 3)
	for _, l := range lists(one, 4) {
		for ins := range len(l) + 1 {
			for outs := range len(l) - ins + 1 {
				for n, eqs := range eqLists {
					// Of the longer lists, one in some: all of them would take too long.
					if len(l) > 3 && (n+ins+outs)%7 != 0 {
						continue
					}
					p := api.Program{Name: "f", Ins: l[:ins], Outs: l[ins : ins+outs], Locals: l[ins+outs:], Eqs: eqs}
					if got, want := Check(p), modelCheck(p); got != want {
						t.Fatalf("Check(%v) = %v, want %v", p, got, want)
					}
				}
			}
		}
	}
}

// R4: the variables are new memory, including their spare capacity and their names.
func TestVarsAreNew(t *testing.T) {
	roomy := func(s string) []api.Var {
		out := append(make([]api.Var, 0, 9), api.Var{Name: s + "1", Type: api.TInt}, api.Var{Name: s + "2", Type: api.TBool, Clock: api.Clock{Kind: api.On, Name: s + "3"}})
		return out
	}
	for _, p := range []api.Program{
		{Ins: roomy("a"), Outs: roomy("b"), Locals: roomy("c")},
		{Ins: roomy("a")},
		{Outs: roomy("b")},
		{Locals: roomy("c")},
		{Locals: make([]api.Var, 0, 9)},
	} {
		got := Vars(p)
		was := slices.Clone(got)
		for i, v := range slices.Concat(p.Ins, p.Outs, p.Locals) {
			if unsafe.StringData(v.Name) == unsafe.StringData(got[i].Name) || v.Clock.Name != "" && unsafe.StringData(v.Clock.Name) == unsafe.StringData(got[i].Clock.Name) {
				t.Error("a name is shared")
			}
		}
		for i := range got[:cap(got)] {
			got[:cap(got)][i] = decl("changed", 5)
		}
		for _, l := range [][]api.Var{p.Ins, p.Outs, p.Locals} {
			for _, v := range l[:cap(l)] {
				if v.Name == "changed" {
					t.Error("the memory is shared")
				}
			}
			clear(l[len(l):cap(l)])
		}
		if again := Vars(p); !slices.Equal(again, was) {
			t.Errorf("%v, was %v", again, was)
		}
	}
}

// R4: arguments are not modified, and what is in their spare capacity does not count.
func TestArgumentsStay(t *testing.T) {
	l := append(some(), decl("z", api.TInt))
	l = l[:len(l)-1]
	was := slices.Clone(l[:cap(l)])
	e := expr(t, "if b then i + z else 1")
	e.Sub = append(make([]api.Expr, 0, 9), e.Sub...)
	wantOf(t, e, l, 0, api.ErrName)
	wantOf(t, e.Sub[2], l, api.TInt, api.OK)
	if !slices.Equal(l[:cap(l)], was) || !tree.SameExpr(e, expr(t, "if b then i + z else 1")) {
		t.Error("an argument was modified")
	}
	const text = "node f (x : int) returns (y : int); var n : int; let y = if x < n then n else x; n = 0 fby y; tel"
	p := program(t, text)
	p.Ins = append(make([]api.Var, 0, 9), p.Ins...)
	p.Locals = append(make([]api.Var, 0, 9), p.Locals...)
	p.Eqs = append(append(make([]api.Eq, 0, 9), p.Eqs...), api.Eq{Name: "q"})[:2]
	for range 3 {
		wantCheck(t, p, api.Fault{})
	}
	if !tree.Same(p, program(t, text)) || p.Ins[:2][1] != (api.Var{}) || p.Locals[:2][1] != (api.Var{}) || p.Eqs[:3][2].Name != "q" {
		t.Error("the program was modified")
	}
	clear(p.Eqs)
	wantCheck(t, program(t, text), api.Fault{})
}

// R1: any number of variables, of any sort.
func TestManyVariables(t *testing.T) {
	l := slices.Repeat(some(), 20000)
	l = append(l, decl("z", api.TBool))
	wantOf(t, expr(t, "i when z"), l, api.TInt, api.OK)
	wantOf(t, expr(t, "merge y i i"), l, 0, api.ErrName)
	for n := range 300 {
		e := api.Expr{Kind: n - 150, N: int32(n * 77), Name: strings.Repeat("a", n%20), Sub: make([]api.Expr, n%5)}
		if k, wrong := Of(e, l); (wrong == api.OK) != (k != 0) {
			t.Errorf("%v: %d, %d", e, k, wrong)
		}
		if f := Check(api.Program{Name: "f", Eqs: []api.Eq{{Name: "a", Delay: n - 150, First: e, E: e}}}); f.E == api.OK {
			t.Errorf("%v: %v", e, f)
		}
	}
}
