package core_test

import (
	"slices"
	"strconv"
	"strings"

	"grapnel/api"
	"grapnel/core"
)

// writer writes the core of a tree in which nothing is wrong, as told does; a variable's number is the last place of its name in env.
type writer struct{ items []api.Node }

func place(env []string, name string) int {
	for i := len(env) - 1; i >= 0; i-- {
		if env[i] == name {
			return i
		}
	}
	return -1
}

// form writes a node of a core.
func form(kind string, at int, n int64, v int, s string, parts ...string) string {
	head := kind + "@" + strconv.Itoa(at)
	if n != 0 {
		head += " n" + strconv.FormatInt(n, 10)
	}
	if v != 0 {
		head += " v" + strconv.Itoa(v)
	}
	if s != "" {
		head += " s" + s
	}
	return "(" + strings.Join(append([]string{head}, parts...), " ") + ")"
}

func unitForm(at int) string { return form("Con", at, 0, 0, "()") }

func (w writer) listed(kind string, at int, parts []string) string {
	if len(parts) == 0 {
		return form(kind, at, 0, 0, "[]")
	}
	return form(kind, at, 0, 0, "::", parts[0], w.listed(kind, at, parts[1:]))
}

func (w writer) constructed(kind string, n api.Node, each func([]api.Node) []string) string {
	if n.S == "::" {
		return form(kind, n.At, 0, 0, "::", each(n.L[0].L)...)
	}
	number, _, _ := conOf(w.items, n.S)
	return form(kind, n.At, number, 0, n.S, each(n.L)...)
}

// pattern writes a pattern whose names are bound in env already.
func (w writer) pattern(p api.Node, env []string) string {
	all := func(l []api.Node) []string {
		var out []string
		for _, x := range l {
			out = append(out, w.pattern(x, env))
		}
		return out
	}
	switch p.Kind {
	case api.PAny:
		return form("QAny", p.At, 0, 0, "")
	case api.PInt:
		return form("QInt", p.At, p.N, 0, "")
	case api.PText:
		return form("QText", p.At, 0, 0, p.S)
	case api.PUnit:
		return form("QCon", p.At, 0, 0, "()")
	case api.PBool:
		return form("QCon", p.At, p.N, 0, []string{"false", "true"}[p.N])
	case api.PName:
		return form("QVar", p.At, 0, place(env, p.S), "")
	case api.PAs:
		return form("QAs", p.At, 0, place(env, p.S), "", all(p.L)...)
	case api.PCon:
		return w.constructed("QCon", p, all)
	case api.PTuple:
		return form("QTuple", p.At, 0, 0, "", all(p.L)...)
	case api.PList:
		return w.listed("QCon", p.At, all(p.L))
	case api.POr:
		return form("QOr", p.At, 0, 0, "", all(p.L)...)
	}
	return w.fielded("QRecord", p, func(x api.Node) string { return w.pattern(x, env) })
}

func (w writer) fielded(kind string, n api.Node, each func(api.Node) string) string {
	record, _, _ := labelOf(w.items, n.L[0].S)
	var parts []string
	for _, l := range record.L {
		part := form("QAny", n.At, 0, 0, "")
		for _, f := range n.L {
			if f.S == l.S {
				part = each(f.L[0])
			}
		}
		parts = append(parts, part)
	}
	return form(kind, n.At, 0, 0, record.S, parts...)
}

func (w writer) exprs(l []api.Node, env []string) []string {
	var out []string
	for _, x := range l {
		out = append(out, w.expr(x, env))
	}
	return out
}

// plainKind tells what the core of a node that is like it is called.
func plainKind(kind int) string {
	names := map[int]string{
		api.NTuple: "Tuple", api.NArray: "Array", api.NAt: "At", api.NPut: "Put", api.NRaise: "Raise",
		api.NWhile: "While", api.NSeq: "Seq", api.NApp: "App", api.NMatch: "Match", api.NTry: "Try",
	}
	return names[kind]
}

func (w writer) expr(n api.Node, env []string) string {
	switch n.Kind {
	case api.NInt:
		return form("Int", n.At, n.N, 0, "")
	case api.NText:
		return form("Text", n.At, 0, 0, n.S)
	case api.NUnit:
		return unitForm(n.At)
	case api.NBool:
		return form("Con", n.At, n.N, 0, []string{"false", "true"}[n.N])
	case api.NName:
		if v := place(env, n.S); v >= 0 {
			return form("Var", n.At, 0, v, "")
		}
		return form("Builtin", n.At, int64(slices.Index(core.Builtins(), n.S)+1), 0, "")
	case api.NCon:
		return w.constructed("Con", n, func(l []api.Node) []string { return w.exprs(l, env) })
	case api.NList:
		return w.listed("Con", n.At, w.exprs(n.L, env))
	case api.NRecord:
		return w.fielded("Record", n, func(x api.Node) string { return w.expr(x, env) })
	case api.NGet, api.NSet:
		_, i, _ := labelOf(w.items, n.S)
		return form(map[int]string{api.NGet: "Get", api.NSet: "Set"}[n.Kind], n.At, int64(i), 0, n.S, w.exprs(n.L, env)...)
	case api.NBin, api.NUn, api.NIf:
		return w.operated(n, env)
	case api.NApp:
		if isRef(n, env) {
			return form("Op", n.At, api.OpRef, 0, "", w.exprs(n.L[1:], env)...)
		}
	case api.NFun, api.NCases, api.NArm, api.NFor, api.NLet:
		return w.binding(n, env)
	}
	return form(plainKind(n.Kind), n.At, 0, 0, "", w.exprs(n.L, env)...)
}

func (w writer) operated(n api.Node, env []string) string {
	parts := w.exprs(n.L, env)
	switch {
	case n.Kind == api.NIf && len(parts) == 2:
		return form("If", n.At, 0, 0, "", parts[0], parts[1], unitForm(n.At))
	case n.Kind == api.NIf:
		return form("If", n.At, 0, 0, "", parts...)
	case n.S == "&&":
		return form("If", n.At, 0, 0, "", parts[0], parts[1], form("Con", n.At, 0, 0, "false"))
	case n.S == "||":
		return form("If", n.At, 0, 0, "", parts[0], form("Con", n.At, 1, 0, "true"), parts[1])
	}
	ops := map[string]int64{
		"+": api.OpAdd, "-": api.OpSub, "*": api.OpMul, "/": api.OpDiv, "mod": api.OpRem,
		"=": api.OpEq, "<>": api.OpNe, "<": api.OpLt, ">": api.OpGt, "<=": api.OpLe, ">=": api.OpGe, "^": api.OpCat, ":=": api.OpAssign,
	}
	if n.Kind == api.NUn {
		ops = map[string]int64{"-": api.OpNeg, "not": api.OpNot, "!": api.OpDeref}
	}
	return form("Op", n.At, ops[n.S], 0, "", parts...)
}

func (w writer) binding(n api.Node, env []string) string {
	last := len(n.L) - 1
	switch n.Kind {
	case api.NFun:
		return w.function(n, env)
	case api.NCases:
		inner := plus(env, "?")
		parts := append([]string{form("Var", n.At, 0, len(env), "")}, w.exprs(n.L, inner)...)
		return form("Fun", n.At, 1, len(env), "", form("Match", n.At, 0, 0, "", parts...))
	case api.NArm:
		inner := plus(env, namesOf(n.L[0])...)
		parts := append([]string{w.pattern(n.L[0], inner)}, w.exprs(n.L[1:], inner)...)
		return form("Case", n.At, 0, 0, "", parts...)
	case api.NFor:
		parts := append(w.exprs(n.L[:2], env), w.expr(n.L[2], plus(env, n.S)))
		return form("For", n.At, n.N, len(env), "", parts...)
	}
	return w.let(n, n.L[:last], env, func(inner []string) string { return w.expr(n.L[last], inner) })
}

func (w writer) function(n api.Node, env []string) string {
	last := len(n.L) - 1
	inner := slices.Clone(env)
	for _, p := range n.L[:last] {
		if p.Kind == api.PName {
			inner = append(inner, p.S)
		} else {
			inner = append(inner, "?")
		}
	}
	opening, closing := "", ""
	for i, p := range n.L[:last] {
		if p.Kind == api.PName {
			continue
		}
		inner = plus(inner, namesOf(p)...)
		at := "@" + strconv.Itoa(p.At) + " "
		opening += "(Match" + at + form("Var", p.At, 0, len(env)+i, "") + " (Case" + at + w.pattern(p, inner) + " "
		closing += "))"
	}
	return form("Fun", n.At, int64(last), len(env), "", opening+w.expr(n.L[last], inner)+closing)
}

func (w writer) let(n api.Node, binds []api.Node, env []string, body func([]string) string) string {
	inner := slices.Clone(env)
	for _, b := range binds {
		inner = append(inner, namesOf(b.L[0])...)
	}
	var patterns, values []string
	for _, b := range binds {
		patterns = append(patterns, w.pattern(b.L[0], inner))
		if n.N == 1 {
			values = append(values, w.expr(b.L[1], inner))
		} else {
			values = append(values, w.expr(b.L[1], env))
		}
	}
	switch {
	case n.N == 1:
		return form("Rec", n.At, int64(len(binds)), len(env), "", append(values, body(inner))...)
	case len(binds) == 1 && binds[0].L[0].Kind == api.PName:
		return form("Let", n.At, 0, len(env), "", values[0], body(inner))
	case len(binds) == 1:
		return form("Match", n.At, 0, 0, "", values[0], form("Case", n.At, 0, 0, "", patterns[0], body(inner)))
	}
	only := form("Case", n.At, 0, 0, "", form("QTuple", n.At, 0, 0, "", patterns...), body(inner))
	return form("Match", n.At, 0, 0, "", form("Tuple", n.At, 0, 0, "", values...), only)
}

// program writes the core of items; done are those ahead of them.
func program(items []api.Node, done int, env []string) string {
	if done == len(items) {
		return unitForm(0)
	}
	if it := items[done]; it.Kind == api.ILet {
		return writer{items}.let(it, it.L, env, func(inner []string) string { return program(items, done+1, inner) })
	}
	return program(items, done+1, env)
}

func typeForm(n api.Node) string {
	s := "(" + map[int]string{api.TName: n.S, api.TApp: n.S, api.TArrow: "->", api.TTuple: "*"}[n.Kind]
	for _, x := range n.L {
		s += " " + typeForm(x)
	}
	return s + ")"
}

func conForm(items []api.Node, n api.Node) string {
	number, _, _ := conOf(items, n.S)
	s := n.S + " " + strconv.FormatInt(number, 10)
	for _, x := range n.L {
		s += " of " + typeForm(x)
	}
	return s
}

// declsForm writes what items declare, as declsTold does.
func declsForm(items []api.Node) string {
	var sorts, exns []string
	for _, it := range items {
		line := "type " + it.S
		for _, x := range it.L {
			switch {
			case it.Kind == api.IVariant:
				line += " | " + conForm(items, x)
			case it.Kind == api.IRecord:
				line += " ; " + []string{"", "mutable "}[x.N] + x.S + " " + typeForm(x.L[0])
			}
		}
		switch it.Kind {
		case api.IVariant, api.IRecord:
			sorts = append(sorts, line)
		case api.IExn:
			exns = append(exns, "exception "+conForm(items, it))
		}
	}
	return strings.Join(append(append(sorts, builtInTold), exns...), "\n")
}
