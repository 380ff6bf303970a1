package infer_test

import (
	"slices"
	"strings"

	"grapnel/api"
)

// function writes a function of a type.
func (m *maker) function(want api.Type) string {
	return m.within(func() string {
		if m.r.Intn(3) == 0 {
			return "(function " + m.arms(want.L[0], want.L[1]) + ")"
		}
		p := m.pattern(want.L[0])
		if m.r.Intn(2) == 0 && want.L[1].S == "->" {
			p += " " + m.pattern(want.L[1].L[0])
			want = want.L[1]
		}
		return "(fun " + p + " -> " + m.expr(want.L[1]) + ")"
	})
}

// arms writes cases for what is of one type, which come to another one.
func (m *maker) arms(of, want api.Type) string {
	var all []string
	for range 1 + m.r.Intn(3) {
		all = append(all, m.within(func() string {
			s := m.pattern(of)
			if m.r.Intn(3) == 0 {
				s += " when " + m.expr(named("bool"))
			}
			return s + " -> " + m.expr(want)
		}))
	}
	return strings.Join(all, " | ")
}

// pattern writes a pattern of a type, and binds its names.
func (m *maker) pattern(of api.Type) string {
	s, names := m.matching(of)
	m.scope = append(m.scope, names...)
	return s
}

// matching writes a pattern of a type, and tells the names in it.
func (m *maker) matching(of api.Type) (string, []bound) {
	m.more--
	if m.heedless() {
		of = m.some(1)
	}
	switch k := m.r.Intn(10); {
	case k < 3 || m.more < 0:
		b := bound{name: m.fresh(), t: of}
		return b.name, []bound{b}
	case k == 3:
		return "_", nil
	case k == 4:
		s, names := m.matching(of)
		b := bound{name: m.fresh(), t: of}
		return "(" + s + " as " + b.name + ")", append(names, b)
	case k == 5:
		return m.either(of)
	}
	return m.taken(of)
}

// either writes a pattern of two ways: the second one is the first one with other constants.
func (m *maker) either(of api.Type) (string, []bound) {
	s, names := m.matching(of)
	other := strings.NewReplacer(" 1", " 2", `"a"`, `"b"`, "true", "false", "A", "D", "Not_found", "N", "N", "Not_found").Replace(" " + s)
	if m.heedless() && len(names) == 1 {
		other = " (" + names[0].name + ", 1)"
	}
	return "(" + s + " |" + other + ")", names
}

// taken writes a pattern that takes what is of a type apart.
func (m *maker) taken(of api.Type) (string, []bound) {
	switch of.S {
	case "int":
		return pick(m, "1", "-1", "7"), nil
	case "bool":
		return pick(m, "true", "false"), nil
	case "unit":
		return "()", nil
	case "string":
		return `"a"`, nil
	case "exn":
		s, names := m.matching(named("string"))
		if m.r.Intn(2) == 0 {
			return pick(m, "N", "Not_found"), nil
		}
		return "(E " + s + ")", names
	case "t":
		s, names := m.matching(named("int"))
		if m.r.Intn(2) == 0 {
			return pick(m, "A", "D"), nil
		}
		return "(B " + s + ")", names
	case "r":
		s, names := m.matching(named("int"))
		s2, names2 := m.matching(named("t"))
		if m.r.Intn(2) == 0 {
			return "{x = " + s + "}", names
		}
		return "{y = " + s2 + "; x = " + s + "}", append(names2, names...)
	case "list":
		return m.elements(of)
	case "*":
		return m.parts(of)
	}
	return "_", nil
}

func (m *maker) elements(of api.Type) (string, []bound) {
	if m.r.Intn(4) == 0 {
		return "[]", nil
	}
	s, names := m.matching(of.L[0])
	if m.r.Intn(2) == 0 {
		return "[" + s + "]", names
	}
	s2, names2 := m.matching(of)
	return "(" + s + " :: " + s2 + ")", append(names, names2...)
}

func (m *maker) parts(of api.Type) (string, []bound) {
	var all []string
	var names []bound
	for _, p := range of.L {
		s, some := m.matching(p)
		all = append(all, s)
		names = append(names, some...)
	}
	return "(" + strings.Join(all, ", ") + ")", names
}

// guided writes an expression that applies, binds or chooses.
func (m *maker) guided(want api.Type) string {
	switch m.r.Intn(13) {
	case 0:
		return "if " + m.expr(named("bool")) + " then " + m.expr(want) + " else " + m.expr(want)
	case 1, 2:
		s, t := m.any()
		return "match " + s + " with " + m.arms(t, want)
	case 3:
		return "try " + m.expr(want) + " with " + m.arms(named("exn"), want)
	case 4:
		s, _ := m.any()
		return s + "; " + m.expr(want)
	case 5:
		t := m.some(2)
		return "(" + m.expr(named("->", t, want)) + ") (" + m.expr(t) + ")"
	case 6:
		return "!" + m.expr(named("ref", want))
	case 7:
		return "(" + m.expr(named("array", want)) + ").(" + m.expr(named("int")) + ")"
	case 8:
		return pick(m, "raise "+m.expr(named("exn")), "exit "+m.expr(named("int")))
	}
	return m.within(func() string { return m.let() + " in " + m.expr(want) })
}

// let writes a let without a body, and binds its names.
func (m *maker) let() string {
	switch m.r.Intn(6) {
	case 0:
		s, t := m.any()
		return "let " + m.pattern(t) + " = " + s
	case 1:
		s, t := m.any()
		s2, t2 := m.any()
		return "let " + m.pattern(t) + " = " + s + " and " + m.pattern(t2) + " = " + s2
	case 2:
		return m.rec()
	}
	b := bound{name: m.fresh()}
	if m.r.Intn(3) == 0 {
		s := ""
		s, b.t = m.any()
		m.scope = append(m.scope, b)
		return "let " + b.name + " = " + s
	}
	b.general = []string{"g" + m.fresh(), "g" + m.fresh()}
	s, t := m.value(b.general)
	b.t = t
	m.scope = append(m.scope, b)
	return "let " + b.name + " = " + s
}

// value writes a value in whose type these names are general.
func (m *maker) value(general []string) (string, api.Type) {
	if m.heedless() {
		t := m.some(3, general...)
		return m.expr(t), t
	}
	a := named(general[0])
	switch m.r.Intn(8) {
	case 0:
		return "[]", named("list", a)
	case 1:
		return pick(m, "compare", "(compare)"), named("->", a, named("->", a, named("int")))
	case 2:
		s, t := m.value(general)
		s2, t2 := m.value(general)
		return "(" + s + ", " + s2 + ")", named("*", t, t2)
	case 3:
		s, t := m.value(general)
		return "[" + s + "]", named("list", t)
	}
	t := named("->", m.some(2, general...), m.some(2, general...))
	return m.function(t), t
}

// rec writes a let rec of one or two functions, and binds their names: within them nothing in their types is general.
func (m *maker) rec() string {
	general := []string{"g" + m.fresh(), "g" + m.fresh()}
	var all []bound
	for range 1 + m.r.Intn(2) {
		t := named("->", m.some(1, general...), m.some(2, general...))
		all = append(all, bound{name: m.fresh(), t: t})
	}
	around := slices.Clone(m.scope)
	m.scope = append(m.scope, all...)
	var written []string
	for _, b := range all {
		written = append(written, b.name+" = "+m.function(b.t))
	}
	m.scope = around
	for _, b := range all {
		m.scope = append(m.scope, bound{name: b.name, t: b.t, general: general})
	}
	return "let rec " + strings.Join(written, " and ")
}
