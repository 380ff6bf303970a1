package core_test

import (
	"slices"
	"strconv"
	"strings"
)

// pattern writes a pattern, in brackets where there can be doubt, that binds just these names.
func (m *maker) pattern(names []string) string {
	m.more--
	if m.heedless() {
		names = append(slices.Clone(names), m.pick(pool()))
	}
	form := m.r.Intn(9)
	switch {
	case len(names) == 1 && (form < 4 || m.more < 0):
		return names[0]
	case len(names) == 0 && (form < 6 || m.more < 0):
		return m.constant()
	case form == 1 && len(names) > 0:
		i := m.r.Intn(len(names))
		others := slices.Delete(slices.Clone(names), i, i+1)
		return "(" + m.pattern(others) + " as " + names[i] + ")"
	case form == 2 || form == 3:
		return "(" + m.pattern(names) + " | " + m.pattern(m.split(names, 1)[0]) + ")"
	case form == 4:
		return "(" + strings.Join(m.patterns(names, 2), " :: ") + ")"
	case form == 5:
		return "[" + strings.Join(m.patterns(names, 1+m.r.Intn(3)), "; ") + "]"
	case form == 6:
		return "(" + m.pick(m.with) + " " + m.pattern(names) + ")"
	case form == 7 && len(m.labels) > 0:
		return m.fields(func(many int) []string { return m.patterns(names, many) }, false)
	}
	return "(" + strings.Join(m.patterns(names, 2+m.r.Intn(2)), ", ") + ")"
}

func (m *maker) constant() string {
	if m.heedless() {
		return m.pick([]string{"Unknown", "Failure", "(Not_found 1)", "C9", "C7"})
	}
	return m.pick(append([]string{"_", "1", "-2", `"s"`, "true", "false", "()", "[]"}, m.plain...))
}

func (m *maker) patterns(names []string, many int) []string {
	var all []string
	for _, some := range m.split(names, many) {
		all = append(all, m.pattern(some))
	}
	return all
}

// fields writes a record, all of its labels, or some of them, in another order.
func (m *maker) fields(parts func(many int) []string, whole bool) string {
	labels := m.labels[m.r.Intn(len(m.labels))]
	order := m.r.Perm(len(labels))
	if !whole || m.heedless() {
		order = order[:1+m.r.Intn(len(order))]
	}
	var written []string
	for i, s := range parts(len(order)) {
		label := labels[order[i]]
		if m.heedless() {
			label = m.label()
		}
		written = append(written, label+" = "+s)
	}
	return "{" + strings.Join(written, "; ") + "}"
}

func (m *maker) label() string {
	if len(m.labels) == 0 || m.heedless() {
		return m.pick([]string{"l00", "l10", "l20", "unknown"})
	}
	return m.pick(m.labels[m.r.Intn(len(m.labels))])
}

// expr writes an expression, in brackets where there can be doubt.
func (m *maker) expr() string {
	m.more--
	form := m.r.Intn(30)
	if m.more < 0 {
		form = m.r.Intn(7)
	}
	switch {
	case form < 7:
		return m.small(form)
	case form < 16:
		return m.joined(form)
	case form < 22:
		return "(" + m.choice(form) + ")"
	}
	return "(" + m.binding(form) + ")"
}

func (m *maker) small(form int) string {
	switch {
	case form == 0:
		return strconv.Itoa(m.r.Intn(100))
	case form == 1:
		return m.pick([]string{`"t"`, "true", "false", "()", "[]", "[||]"})
	case form == 2 && m.heedless():
		return m.pick([]string{"Unknown", "Failure", "(Not_found 1)", "C9", "C7"})
	case form == 2:
		return m.pick(m.plain)
	case form == 3:
		return m.pick([]string{"print_int", "print_string", "read_line", "string_of_int", "array_make", "compare"})
	case m.heedless():
		return m.pick(pool())
	case len(m.scope) == 0:
		return "1"
	}
	return m.pick(m.scope)
}

func (m *maker) exprs(many int) []string {
	var all []string
	for range many {
		all = append(all, m.expr())
	}
	return all
}

func (m *maker) joined(form int) string {
	switch form {
	case 7:
		return "(" + strings.Join(m.exprs(2+m.r.Intn(2)), ", ") + ")"
	case 8:
		return "[" + strings.Join(m.exprs(1+m.r.Intn(3)), "; ") + "]"
	case 9:
		return "[|" + strings.Join(m.exprs(1+m.r.Intn(3)), "; ") + "|]"
	case 10:
		return "(" + m.pick(m.with) + " " + m.expr() + ")"
	case 11:
		return "(" + strings.Join(m.exprs(2), " :: ") + ")"
	case 12:
		if len(m.labels) == 0 {
			return "1"
		}
		return m.fields(m.exprs, true)
	case 13:
		if len(m.labels) == 0 {
			return "(" + m.expr() + ").(" + m.expr() + ")"
		}
		return "(" + m.expr() + ")." + m.label()
	case 14:
		if len(m.labels) == 0 || m.r.Intn(2) == 0 {
			return "((" + m.expr() + ").(" + m.expr() + ") <- " + m.expr() + ")"
		}
		return "((" + m.expr() + ")." + m.label() + " <- " + m.expr() + ")"
	}
	return "((" + strings.Join(m.exprs(2+m.r.Intn(3)), ") (") + "))"
}

func (m *maker) choice(form int) string {
	switch form {
	case 16:
		return "raise " + m.expr()
	case 17:
		return "while " + m.expr() + " do " + m.expr() + " done"
	case 18:
		return m.expr() + "; " + m.expr()
	case 19:
		return m.expr() + " " + m.pick(strings.Fields("+ - * / mod = <> < > <= >= ^ := && ||")) + " " + m.expr()
	case 20:
		return m.pick([]string{"- ", "not ", "! ", "ref "}) + m.expr()
	}
	s := "if " + m.expr() + " then " + m.expr()
	if m.r.Intn(2) == 0 {
		s += " else " + m.expr()
	}
	return s
}

func (m *maker) binding(form int) string {
	around := m.scope
	defer func() { m.scope = around }()
	switch form {
	case 22, 23:
		params, body := m.function()
		return "fun " + params + " -> " + body
	case 24:
		return "function " + m.arms()
	case 25, 26:
		return m.pick([]string{"match ", "try "}) + m.expr() + " with " + m.arms()
	case 27:
		name := m.pick(pool())
		bounds := " = " + m.expr() + m.pick([]string{" to ", " downto "}) + m.expr()
		m.scope = append(slices.Clone(m.scope), name)
		return "for " + name + bounds + " do " + m.expr() + " done"
	}
	written, names := m.let()
	m.scope = append(slices.Clone(m.scope), names...)
	return written + " in " + m.expr()
}

func (m *maker) arms() string {
	var all []string
	around := m.scope
	for range 1 + m.r.Intn(3) {
		names := m.fresh(m.r.Intn(3))
		m.scope = append(slices.Clone(around), names...)
		arm := m.pattern(names)
		if m.r.Intn(3) == 0 {
			arm += " when " + m.expr()
		}
		all = append(all, arm+" -> "+m.expr())
	}
	m.scope = around
	return strings.Join(all, " | ")
}
