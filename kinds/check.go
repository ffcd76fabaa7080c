package kinds

import "midstream/api"

// The parts of a program in which a Fault is.
const (
	aVariable  = 2
	anEquation = 3
	theWhole   = 4
)

// checker is a program that tree.Print accepts, with its variables and equations within the limits.
type checker struct {
	scope
	ins     int // how many of the variables are inputs
	eqs     []api.Eq
	defines map[string]int // the number of the first equation of a name
}

// fault is the first one, in the order of the chapter: what is missing comes behind what is wrong.
func (c checker) fault() api.Fault {
	for i, v := range c.vars {
		if c.number[v.Name] < i {
			return api.Fault{Part: aVariable, At: i, E: api.ErrTwice}
		}
	}
	for i := range c.eqs {
		if wrong := c.equation(i); wrong != api.OK {
			return api.Fault{Part: anEquation, At: i, E: wrong}
		}
	}
	for i := c.ins; i < len(c.vars); i++ {
		if _, defined := c.defines[c.vars[i].Name]; !defined {
			return api.Fault{Part: aVariable, At: i, E: api.ErrNone}
		}
	}
	return api.Fault{}
}

// equation is what is wrong of the one with that number.
func (c checker) equation(i int) api.Errno {
	q := c.eqs[i]
	n, known := c.number[q.Name]
	if !known || n < c.ins {
		return api.ErrName
	}
	if c.defines[q.Name] < i {
		return api.ErrTwice
	}
	t, wrong := c.typeOf(q.E)
	if wrong != api.OK {
		return wrong
	}
	if t != c.vars[n].Type || !c.startsWith(q, t) {
		return api.ErrType
	}
	return api.OK
}

// startsWith is whether the first value of an equation, if it has one, is of that type.
func (c checker) startsWith(q api.Eq, t int) bool {
	if q.Delay != api.DFby {
		return true
	}
	first, _ := c.typeOf(q.First)
	return first == t
}
