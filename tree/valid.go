package tree

import (
	"slices"

	"midstream/api"
	"midstream/lex"
)

// room is how many of n expressions are left behind e and its parts: a number below 0, as soon as they are more.
func room(e api.Expr, n int) int {
	n--
	for _, part := range e.Sub {
		// Ended early, as there may be any number of parts, and any number of levels.
		if n < 0 {
			break
		}
		n = room(part, n)
	}
	return n
}

// fitsWithin is whether an expression is nested at most that many levels deep, itself included.
func fitsWithin(e api.Expr, levels int) bool {
	return levels > 0 && all(e.Sub, func(part api.Expr) bool { return fitsWithin(part, levels-1) })
}

// formed is whether an expression and all its parts have what their kinds require, and nothing else.
func formed(e api.Expr) bool {
	fits := e.N == 0
	named := false
	parts := 0
	switch e.Kind {
	case api.ENum:
		fits = e.N >= 0
	case api.EBool:
		fits = e.N == 0 || e.N == 1
	case api.EVar:
		named = true
	case api.EUn:
		fits, parts = e.N == api.UnNeg || e.N == api.UnNot, 1
	case api.EBin:
		fits, parts = e.N >= api.OpAdd && e.N <= api.OpGe, 2
	case api.EIf:
		parts = 3
	case api.EArrow:
		parts = 2
	case api.EWhen, api.EUnless:
		named, parts = true, 1
	case api.EMerge:
		named, parts = true, 2
	default:
		return false
	}
	return fits && nameFits(e.Name, named) && len(e.Sub) == parts && all(e.Sub, formed)
}

// nameFits is whether a text is a name where there is one, and empty where there is none.
func nameFits(s string, named bool) bool {
	if named {
		return lex.Name(s)
	}
	return s == ""
}

func valid(p api.Program) bool {
	return lex.Name(p.Name) && all(p.Ins, validPort) && all(p.Outs, validPort) && all(p.Locals, validLocal) && all(p.Eqs, validEq)
}

func validDecl(v api.Var) bool {
	return lex.Name(v.Name) && (v.Type == api.TInt || v.Type == api.TBool)
}

// validPort is for inputs and outputs.
func validPort(v api.Var) bool {
	return validDecl(v) && v.Clock == api.Clock{}
}

func validLocal(v api.Var) bool {
	sampled := v.Clock.Kind == api.On || v.Clock.Kind == api.Off
	return validDecl(v) && (sampled || v.Clock.Kind == api.Base) && nameFits(v.Clock.Name, sampled)
}

func validEq(q api.Eq) bool {
	return lex.Name(q.Name) && Right(q.E) == api.OK && validFirst(q)
}

func validFirst(q api.Eq) bool {
	switch q.Delay {
	case api.DNone, api.DPre:
		return SameExpr(q.First, api.Expr{})
	case api.DFby:
		return Right(q.First) == api.OK && isLiteral(q.First)
	}
	return false
}

// isLiteral expects a valid expression.
func isLiteral(e api.Expr) bool {
	switch e.Kind {
	case api.ENum, api.EBool:
		return true
	case api.EUn:
		return e.N == api.UnNeg && e.Sub[0].Kind == api.ENum
	}
	return false
}

func all[T any](l []T, fits func(x T) bool) bool {
	return !slices.ContainsFunc(l, func(x T) bool { return !fits(x) })
}
