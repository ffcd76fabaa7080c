package kinds

import (
	"slices"

	"midstream/api"
	"midstream/tree"
)

// The model: the rules of the chapter as tables and loops, in the order in which the chapter has them.

// signature is the types of the parts that an expression may have, and its own.
type signature struct {
	parts []int
	whole int
}

// oneType is parts of the same type, with the whole of it too.
func oneType(parts int) []signature {
	return []signature{
		{slices.Repeat([]int{api.TInt}, parts), api.TInt},
		{slices.Repeat([]int{api.TBool}, parts), api.TBool},
	}
}

func signaturesOfBin(op int32) []signature {
	const i, b = api.TInt, api.TBool
	switch op {
	case api.OpAdd, api.OpSub, api.OpMul, api.OpDiv, api.OpRem, api.OpShl, api.OpShr:
		return []signature{{[]int{i, i}, i}}
	case api.OpAnd, api.OpOr, api.OpXor:
		return oneType(2)
	case api.OpEq, api.OpNe:
		return []signature{{[]int{i, i}, b}, {[]int{b, b}, b}}
	case api.OpLt, api.OpLe, api.OpGt, api.OpGe:
		return []signature{{[]int{i, i}, b}}
	}
	return nil
}

func signatures(e api.Expr) []signature {
	const i, b = api.TInt, api.TBool
	switch e.Kind {
	case api.ENum:
		return []signature{{nil, i}}
	case api.EBool:
		return []signature{{nil, b}}
	case api.EUn:
		if e.N == api.UnNeg {
			return []signature{{[]int{i}, i}}
		}
		return []signature{{[]int{b}, b}}
	case api.EBin:
		return signaturesOfBin(e.N)
	case api.EIf:
		return []signature{{[]int{b, i, i}, i}, {[]int{b, b, b}, b}}
	case api.EArrow, api.EMerge:
		return oneType(2)
	case api.EWhen, api.EUnless:
		return oneType(1)
	}
	return nil
}

func modelVar(vars []api.Var, name string) (api.Var, bool) {
	for _, v := range vars {
		if v.Name == name {
			return v, true
		}
	}
	return api.Var{}, false
}

// modelType is 0 for an expression without a type.
func modelType(e api.Expr, vars []api.Var) int {
	v, known := modelVar(vars, e.Name)
	switch e.Kind {
	case api.EVar:
		if known && (v.Type == api.TInt || v.Type == api.TBool) {
			return v.Type
		}
		return 0
	case api.EWhen, api.EUnless, api.EMerge:
		if !known || v.Type != api.TBool {
			return 0
		}
	}
	for _, s := range signatures(e) {
		fits := len(s.parts) == len(e.Sub)
		for i, want := range s.parts {
			fits = fits && modelType(e.Sub[i], vars) == want
		}
		if fits {
			return s.whole
		}
	}
	return 0
}

// visited is all expressions of one, each behind its parts.
func visited(e api.Expr) []api.Expr {
	var out []api.Expr
	for _, part := range e.Sub {
		out = append(out, visited(part)...)
	}
	return append(out, e)
}

// modelOf expects an expression that tree.Right accepts.
func modelOf(e api.Expr, vars []api.Var) (int, api.Errno) {
	for _, x := range visited(e) {
		if modelType(x, vars) != 0 {
			continue
		}
		named := x.Kind == api.EVar || x.Kind == api.EWhen || x.Kind == api.EUnless || x.Kind == api.EMerge
		if _, known := modelVar(vars, x.Name); named && !known {
			return 0, api.ErrName
		}
		return 0, api.ErrType
	}
	return modelType(e, vars), api.OK
}

func modelEq(p api.Program, vars []api.Var, n int) api.Errno {
	q := p.Eqs[n]
	v, known := modelVar(vars, q.Name)
	if _, input := modelVar(p.Ins, q.Name); !known || input {
		return api.ErrName
	}
	for _, earlier := range p.Eqs[:n] {
		if earlier.Name == q.Name {
			return api.ErrTwice
		}
	}
	t, e := modelOf(q.E, vars)
	if e != api.OK {
		return e
	}
	if t != v.Type || q.Delay == api.DFby && modelType(q.First, vars) != v.Type {
		return api.ErrType
	}
	return api.OK
}

func modelCheck(p api.Program) api.Fault {
	if _, e := tree.Print(p); e != api.OK {
		return api.Fault{Part: 4, At: 0, E: e}
	}
	vars := slices.Concat(p.Ins, p.Outs, p.Locals)
	if len(p.Ins) > 8 || len(p.Outs) > 8 || len(vars) > 24 {
		return api.Fault{Part: 4, At: 0, E: api.ErrBig}
	}
	for n, v := range vars {
		if _, earlier := modelVar(vars[:n], v.Name); earlier {
			return api.Fault{Part: 2, At: n, E: api.ErrTwice}
		}
	}
	for n := range p.Eqs {
		if e := modelEq(p, vars, n); e != api.OK {
			return api.Fault{Part: 3, At: n, E: e}
		}
	}
	for n, v := range vars {
		defined := n < len(p.Ins)
		for _, q := range p.Eqs {
			defined = defined || q.Name == v.Name
		}
		if !defined {
			return api.Fault{Part: 2, At: n, E: api.ErrNone}
		}
	}
	return api.Fault{}
}
