package kinds

import "midstream/api"

// none is the type of what has none.
const none = 0

// scope is the variables that an expression may name.
type scope struct {
	vars   []api.Var
	number map[string]int // of the variable of a name
}

func scopeOf(vars []api.Var) scope {
	return scope{vars, firsts(vars, func(v api.Var) string { return v.Name })}
}

// firsts is the number of the first item with each name.
func firsts[T any](list []T, name func(item T) string) map[string]int {
	out := map[string]int{}
	for i, item := range list {
		key := name(item)
		if _, known := out[key]; !known {
			out[key] = i
		}
	}
	return out
}

// typeOf expects an expression that tree.Right accepts.
func (s scope) typeOf(e api.Expr) (int, api.Errno) {
	var parts []int
	for _, sub := range e.Sub {
		t, wrong := s.typeOf(sub)
		if wrong != api.OK {
			return none, wrong
		}
		parts = append(parts, t)
	}
	named := none
	// A name stands exactly in those kinds that name a variable.
	if e.Name != "" {
		n, known := s.number[e.Name]
		if !known {
			return none, api.ErrName
		}
		named = s.vars[n].Type
	}
	t := ruled(e, named, parts)
	if t == none {
		return none, api.ErrType
	}
	return t, api.OK
}

// ruled is the type that the rule for an expression gives it, by the types of the variable that it names and of its parts.
func ruled(e api.Expr, named int, parts []int) int {
	switch e.Kind {
	case api.ENum:
		return api.TInt
	case api.EBool:
		return api.TBool
	case api.EVar:
		// Whoever calls Of may have declared variables of any types.
		return typeIf(named == api.TInt || named == api.TBool, named)
	case api.EUn:
		return unary(int(e.N), parts[0])
	case api.EBin:
		return binary(int(e.N), parts[0], parts[1])
	case api.EIf:
		return typeIf(parts[0] == api.TBool && parts[1] == parts[2], parts[1])
	case api.EArrow:
		return typeIf(parts[0] == parts[1], parts[0])
	case api.EWhen, api.EUnless:
		return typeIf(named == api.TBool, parts[0])
	case api.EMerge:
		return typeIf(named == api.TBool && parts[0] == parts[1], parts[0])
	}
	return none
}

func unary(op, part int) int {
	if op == api.UnNot {
		return typeIf(part == api.TBool, api.TBool)
	}
	return typeIf(part == api.TInt, api.TInt)
}

func binary(op, left, right int) int {
	ints := left == api.TInt && right == api.TInt
	switch op {
	case api.OpAnd, api.OpOr, api.OpXor:
		return typeIf(left == right, left)
	case api.OpEq, api.OpNe:
		return typeIf(left == right, api.TBool)
	case api.OpLt, api.OpLe, api.OpGt, api.OpGe:
		return typeIf(ints, api.TBool)
	}
	return typeIf(ints, api.TInt)
}

func typeIf(fits bool, t int) int {
	if fits {
		return t
	}
	return none
}
