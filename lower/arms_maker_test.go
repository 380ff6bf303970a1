package lower_test

import (
	"strings"

	"grapnel/api"
)

// function writes a function of a type.
func (m *maker) function(want api.Type) string {
	return m.within(func() string {
		if m.r.Intn(4) == 0 {
			return "(function " + m.arms(want.L[0], want.L[1]) + ")"
		}
		p := m.pattern(want.L[0])
		if m.r.Intn(2) == 0 && want.L[1].S == "->" {
			p += " " + m.pattern(want.L[1].L[0])
			want = want.L[1]
		}
		return "(fun " + p + " -> " + m.expr(want.L[1]) + ")"
	})
}

// arms writes cases for what is of one type, which come to another one; the last one is met always, as a rule.
func (m *maker) arms(of, want api.Type) string {
	var all []string
	for range 1 + m.r.Intn(3) {
		all = append(all, m.within(func() string {
			s := m.pattern(of)
			if m.r.Intn(3) == 0 {
				s += " when " + m.expr(named("bool"))
			}
			return s + " -> " + m.expr(want)
		}))
	}
	if m.r.Intn(5) > 0 {
		all = append(all, "_ -> "+m.expr(want))
	}
	return strings.Join(all, " | ")
}

// pattern writes a pattern of a type, and binds its names.
func (m *maker) pattern(of api.Type) string {
	s, names := m.matching(of)
	m.scope = append(m.scope, names...)
	return s
}

// matching writes a pattern of a type, and tells the names in it.
func (m *maker) matching(of api.Type) (string, []bound) {
	m.more--
	if m.heedless() {
		of = m.some(1)
	}
	switch k := m.r.Intn(10); {
	case k < 4 || m.more < 0:
		b := bound{m.fresh(), of}
		return b.name, []bound{b}
	case k == 4:
		return "_", nil
	case k == 5:
		s, names := m.matching(of)
		b := bound{m.fresh(), of}
		return "(" + s + " as " + b.name + ")", append(names, b)
	case k == 6:
		return m.either(of)
	}
	return m.taken(of)
}

// either writes a pattern of two ways: the second one is the first one with other constants, or, of a pair of one type, its parts the other way round.
func (m *maker) either(of api.Type) (string, []bound) {
	if of.S == "*" && same(of.L[0], of.L[1]) {
		s, names := m.matching(of.L[0])
		s2, names2 := m.matching(of.L[1])
		return "((" + s + ", " + s2 + ") | (" + s2 + ", " + s + "))", append(names, names2...)
	}
	s, names := m.matching(of)
	other := strings.NewReplacer(" 1", " 2", `"a"`, `"bc"`, "true", "false", "A", "D", "Not_found", "N", "N", "Not_found").Replace(" " + s)
	return "(" + s + " |" + other + ")", names
}

// taken writes a pattern that takes what is of a type apart.
func (m *maker) taken(of api.Type) (string, []bound) {
	switch of.S {
	case "int":
		return pick(m.r, "1", "0", "-1", "2"), nil
	case "bool":
		return pick(m.r, "true", "false"), nil
	case "unit":
		return "()", nil
	case "string":
		return pick(m.r, `"a"`, `"bc"`), nil
	case "exn":
		return m.one("E ", named("string"), "N", "Not_found")
	case "t":
		if m.r.Intn(3) == 0 {
			return m.one("C ", named("*", named("t"), named("t")), "A")
		}
		return m.one("B ", named("int"), "A", "D")
	case "r":
		s, names := m.matching(named("int"))
		s2, names2 := m.matching(named("t"))
		if m.r.Intn(2) == 0 {
			return "{z = " + s + "}", names
		}
		return "{y = " + s2 + "; x = " + s + "}", append(names2, names...)
	case "list":
		return m.elements(of)
	case "*":
		s, names := m.matching(of.L[0])
		s2, names2 := m.matching(of.L[1])
		return "(" + s + ", " + s2 + ")", append(names, names2...)
	}
	return "_", nil
}

// one writes a pattern of a constructor of something, or of one without.
func (m *maker) one(with string, of api.Type, without ...string) (string, []bound) {
	if m.r.Intn(2) == 0 {
		return pick(m.r, without...), nil
	}
	s, names := m.matching(of)
	return "(" + with + s + ")", names
}

func (m *maker) elements(of api.Type) (string, []bound) {
	if m.r.Intn(4) == 0 {
		return "[]", nil
	}
	s, names := m.matching(of.L[0])
	if m.r.Intn(2) == 0 {
		return "[" + s + "]", names
	}
	s2, names2 := m.matching(of)
	return "(" + s + " :: " + s2 + ")", append(names, names2...)
}

// guided writes an expression that applies, binds or chooses.
func (m *maker) guided(want api.Type) string {
	switch m.r.Intn(15) {
	case 0:
		return "if " + m.expr(named("bool")) + " then " + m.expr(want) + " else " + m.expr(want)
	case 1, 2:
		s, t := m.any()
		return "match " + s + " with " + m.arms(t, want)
	case 3, 4, 5:
		return "try " + m.expr(want) + " with " + m.arms(named("exn"), want)
	case 6:
		s, _ := m.any()
		return s + "; " + m.expr(want)
	case 7:
		t := m.some(2)
		return "(" + m.expr(named("->", t, want)) + ") (" + m.expr(t) + ")"
	case 8:
		return "!" + m.expr(named("ref", want))
	case 9:
		return "(" + m.expr(named("array", want)) + ").(" + m.place() + ")"
	case 10:
		if m.r.Intn(8) == 0 {
			return "exit " + m.expr(named("int"))
		}
		return "raise " + m.expr(named("exn"))
	}
	return m.within(func() string { return m.let() + " in " + m.expr(want) })
}

// let writes a let without a body, and binds its names.
func (m *maker) let() string {
	switch m.r.Intn(6) {
	case 0:
		s, t := m.any()
		return "let " + m.pattern(t) + " = " + s
	case 1:
		s, t := m.any()
		s2, t2 := m.any()
		return "let " + m.pattern(t) + " = " + s + " and " + m.pattern(t2) + " = " + s2
	case 2, 3:
		return m.rec()
	}
	b := bound{name: m.fresh()}
	s := ""
	s, b.t = m.any()
	m.scope = append(m.scope, b)
	return "let " + b.name + " = " + s
}

// rec writes a let rec of one or two functions, and binds their names.
func (m *maker) rec() string {
	var all []bound
	for range 1 + m.r.Intn(2) {
		all = append(all, bound{m.fresh(), named("->", m.some(1), m.some(2))})
	}
	m.scope = append(m.scope, all...)
	var written []string
	for _, b := range all {
		written = append(written, b.name+" = "+m.function(b.t))
	}
	return "let rec " + strings.Join(written, " and ")
}
