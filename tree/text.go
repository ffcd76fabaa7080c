package tree

import (
	"strings"

	"midstream/api"
	"midstream/wrap"
)

// text is a valid expression as text.
func text(e api.Expr) string {
	switch e.Kind {
	case api.ENum:
		return wrap.Digits(e.N)
	case api.EBool:
		return truthText(e.N)
	case api.EVar:
		// Cloned, as the name belongs to whoever passed the expression.
		return strings.Clone(e.Name)
	case api.EUn:
		return prefixText(e.N) + part(e.Sub[0])
	case api.EBin:
		return blanked(part(e.Sub[0]), markOf(e.N), part(e.Sub[1]))
	case api.EIf:
		return blanked("if", text(e.Sub[0]), "then", text(e.Sub[1]), "else", text(e.Sub[2]))
	case api.EArrow:
		return blanked(part(e.Sub[0]), "->", part(e.Sub[1]))
	case api.EWhen:
		return blanked(part(e.Sub[0]), "when", e.Name)
	case api.EUnless:
		return blanked(part(e.Sub[0]), "unless", e.Name)
	}
	return blanked("merge", e.Name, part(e.Sub[0]), part(e.Sub[1]))
}

// part is an expression as text within another one.
func part(e api.Expr) string {
	switch e.Kind {
	case api.ENum, api.EBool, api.EVar, api.EWhen, api.EUnless:
		return text(e)
	}
	return "(" + text(e) + ")"
}

func blanked(words ...string) string {
	return strings.Join(words, " ")
}

func truthText(n int32) string {
	if n == 0 {
		return "false"
	}
	return "true"
}

func prefixText(op int32) string {
	if op == api.UnNeg {
		return "-"
	}
	return "not "
}

// markOf is the mark of an operation of two values.
func markOf(op int32) string {
	for _, o := range operators {
		if o.op == op {
			return o.mark
		}
	}
	return ""
}

// programText is a valid program as text.
func programText(p api.Program) string {
	var out strings.Builder
	line := func(pieces ...string) {
		for _, s := range pieces {
			out.WriteString(s)
		}
		out.WriteByte('\n')
	}
	line("node ", p.Name, " (", declTexts(p.Ins), ") returns (", declTexts(p.Outs), ");")
	if len(p.Locals) > 0 {
		line("var")
	}
	for _, v := range p.Locals {
		line("  ", declText(v), clockText(v.Clock), ";")
	}
	line("let")
	for _, q := range p.Eqs {
		line("  ", q.Name, " = ", delayText(q), text(q.E), ";")
	}
	line("tel")
	return out.String()
}

func declTexts(l []api.Var) string {
	var out []string
	for _, v := range l {
		out = append(out, declText(v))
	}
	return strings.Join(out, "; ")
}

func declText(v api.Var) string {
	if v.Type == api.TBool {
		return v.Name + " : bool"
	}
	return v.Name + " : int"
}

func clockText(c api.Clock) string {
	switch c.Kind {
	case api.On:
		return " when " + c.Name
	case api.Off:
		return " unless " + c.Name
	}
	return ""
}

func delayText(q api.Eq) string {
	switch q.Delay {
	case api.DFby:
		return text(q.First) + " fby "
	case api.DPre:
		return "pre "
	}
	return ""
}
