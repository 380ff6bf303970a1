package infer

import "grapnel/api"

func number() api.Type { return api.Type{S: "int"} }
func truth() api.Type  { return api.Type{S: "bool"} }
func unit() api.Type   { return api.Type{S: "unit"} }
func text() api.Type   { return api.Type{S: "string"} }
func exn() api.Type    { return api.Type{S: "exn"} }

func list(t api.Type) api.Type  { return api.Type{S: "list", L: []api.Type{t}} }
func array(t api.Type) api.Type { return api.Type{S: "array", L: []api.Type{t}} }
func cell(t api.Type) api.Type  { return api.Type{S: "ref", L: []api.Type{t}} }

func arrow(from, to api.Type) api.Type { return api.Type{S: "->", L: []api.Type{from, to}} }

// builtin tells a built-in function's type.
func (f *finder) builtin(c *api.Core) api.Type {
	switch c.N {
	case api.BPrintInt:
		return arrow(number(), unit())
	case api.BPrint:
		return arrow(text(), unit())
	case api.BLine:
		return arrow(unit(), text())
	case api.BExit:
		return arrow(number(), f.fresh())
	case api.BToText:
		return arrow(number(), text())
	case api.BToInt, api.BLength:
		return arrow(text(), number())
	case api.BByte:
		return arrow(text(), arrow(number(), number()))
	case api.BMake:
		a := f.fresh()
		return arrow(number(), arrow(a, array(a)))
	case api.BSize:
		return arrow(array(f.fresh()), number())
	case api.BCompare:
		a := f.fresh()
		return arrow(a, arrow(a, number()))
	case api.BHash:
		return arrow(f.fresh(), number())
	}
	return f.wrong(api.ErrForm, c.At)
}
