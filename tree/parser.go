package tree

import "midstream/api"

// The levels of the operators of two values: those of a higher level bind more tightly.
const (
	levelOr = iota
	levelAnd
	levelCompare
	levelShift
	levelSum
	levelTerm
)

type operator struct {
	mark  string
	op    int32
	level int
}

var operators = []operator{
	{"|", api.OpOr, levelOr},
	{"^", api.OpXor, levelOr},
	{"&", api.OpAnd, levelAnd},
	{"=", api.OpEq, levelCompare},
	{"<>", api.OpNe, levelCompare},
	{"<", api.OpLt, levelCompare},
	{"<=", api.OpLe, levelCompare},
	{">", api.OpGt, levelCompare},
	{">=", api.OpGe, levelCompare},
	{"<<", api.OpShl, levelShift},
	{">>", api.OpShr, levelShift},
	{"+", api.OpAdd, levelSum},
	{"-", api.OpSub, levelSum},
	{"*", api.OpMul, levelTerm},
	{"/", api.OpDiv, levelTerm},
	{"%", api.OpRem, levelTerm},
}

// parser reads the chapter's grammar from its tokens: most methods are a line of it.
type parser struct {
	tokens
}

func (p *parser) program() api.Program {
	var out api.Program
	p.need("node")
	out.Name = p.name()
	out.Ins = p.decls()
	p.need("returns")
	out.Outs = p.decls()
	p.need(";")
	if p.takes("var") {
		out.Locals = p.locals()
	}
	p.need("let")
	for p.seesName() {
		out.Eqs = append(out.Eqs, p.equation())
	}
	p.need("tel")
	p.needEnd()
	return out
}

// decls reads the parentheses around the declarations too.
func (p *parser) decls() []api.Var {
	p.need("(")
	if p.takes(")") {
		return nil
	}
	out := []api.Var{p.decl()}
	for p.takes(";") {
		out = append(out, p.decl())
	}
	p.need(")")
	return out
}

func (p *parser) locals() []api.Var {
	out := []api.Var{p.own()}
	for p.seesName() {
		out = append(out, p.own())
	}
	return out
}

func (p *parser) decl() api.Var {
	name := p.name()
	p.need(":")
	return api.Var{Name: name, Type: p.valueType()}
}

func (p *parser) valueType() int {
	if p.takes("bool") {
		return api.TBool
	}
	p.need("int")
	return api.TInt
}

func (p *parser) own() api.Var {
	out := p.decl()
	switch {
	case p.takes("when"):
		out.Clock = api.Clock{Kind: api.On, Name: p.name()}
	case p.takes("unless"):
		out.Clock = api.Clock{Kind: api.Off, Name: p.name()}
	}
	p.need(";")
	return out
}

func (p *parser) equation() api.Eq {
	from := p.here()
	out := api.Eq{Name: p.name()}
	p.need("=")
	out.Delay, out.First = p.delay()
	out.E = p.expr()
	p.need(";")
	// Without an earlier error the expression is whole, and its names and numbers are those of tokens.
	if e := Right(out.E); e != api.OK {
		p.fail(e, from)
	}
	return out
}

// delay reads what an equation has before its expression.
func (p *parser) delay() (int, api.Expr) {
	if p.takes("pre") {
		return api.DPre, api.Expr{}
	}
	from := p.next
	if first, ok := p.literal(); ok && p.takes("fby") {
		return api.DFby, first
	}
	// An expression may begin like a literal, so what was read belongs to it.
	p.next = from
	return api.DNone, api.Expr{}
}

// literal reads a literal, if there is one; without one it may have passed a minus.
func (p *parser) literal() (api.Expr, bool) {
	if p.takes("-") {
		n, ok := p.number()
		return negative(api.Expr{Kind: api.ENum, N: n}), ok
	}
	return p.constant()
}

// constant reads a number or a truth, if there is one.
func (p *parser) constant() (api.Expr, bool) {
	if n, ok := p.number(); ok {
		return api.Expr{Kind: api.ENum, N: n}, true
	}
	if p.takes("true") {
		return api.Expr{Kind: api.EBool, N: 1}, true
	}
	if p.takes("false") {
		return api.Expr{Kind: api.EBool}, true
	}
	return api.Expr{}, false
}

func negative(e api.Expr) api.Expr {
	return api.Expr{Kind: api.EUn, N: api.UnNeg, Sub: []api.Expr{e}}
}

func (p *parser) expr() api.Expr {
	left := p.binary(levelOr)
	if !p.takes("->") {
		return left
	}
	return api.Expr{Kind: api.EArrow, Sub: []api.Expr{left, p.expr()}}
}

// binary reads operands with operators of the level least and above, which stand for six lines of the grammar, from or to term.
func (p *parser) binary(least int) api.Expr {
	out := p.unary()
	for most := levelTerm; ; {
		o, ok := p.operator(least, most)
		if !ok {
			return out
		}
		out = api.Expr{Kind: api.EBin, N: o.op, Sub: []api.Expr{out, p.binary(o.level + 1)}}
		most = o.level
		if most == levelCompare {
			// There is at most one comparison: a < b < c is no expression.
			most--
		}
	}
}

// operator passes an operator of one of the levels from least to most, if there is one.
func (p *parser) operator(least, most int) (operator, bool) {
	for _, o := range operators {
		if o.level >= least && o.level <= most && p.takes(o.mark) {
			return o, true
		}
	}
	return operator{}, false
}

func (p *parser) unary() api.Expr {
	switch {
	case p.takes("-"):
		return negative(p.unary())
	case p.takes("not"):
		return api.Expr{Kind: api.EUn, N: api.UnNot, Sub: []api.Expr{p.unary()}}
	}
	return p.factor()
}

func (p *parser) factor() api.Expr {
	out := p.atom()
	for {
		switch {
		case p.takes("when"):
			out = api.Expr{Kind: api.EWhen, Name: p.name(), Sub: []api.Expr{out}}
		case p.takes("unless"):
			out = api.Expr{Kind: api.EUnless, Name: p.name(), Sub: []api.Expr{out}}
		default:
			return out
		}
	}
}

func (p *parser) atom() api.Expr {
	if c, ok := p.constant(); ok {
		return c
	}
	switch {
	case p.seesName():
		return api.Expr{Kind: api.EVar, Name: p.name()}
	case p.takes("("):
		inner := p.expr()
		p.need(")")
		return inner
	case p.takes("if"):
		return p.choice()
	case p.takes("merge"):
		return p.merged()
	}
	p.refuse()
	return api.Expr{}
}

// choice reads what follows "if".
func (p *parser) choice() api.Expr {
	condition := p.expr()
	p.need("then")
	then := p.expr()
	p.need("else")
	return api.Expr{Kind: api.EIf, Sub: []api.Expr{condition, then, p.expr()}}
}

// merged reads what follows "merge".
func (p *parser) merged() api.Expr {
	name := p.name()
	return api.Expr{Kind: api.EMerge, Name: name, Sub: []api.Expr{p.factor(), p.factor()}}
}
