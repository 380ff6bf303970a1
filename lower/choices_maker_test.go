package lower_test

import (
	"strconv"
	"strings"

	"grapnel/api"
)

// chooser makes up programs that choose by patterns what is much alike: values and patterns of few constants, guards that write and change fields, and bodies that show what was bound.
type chooser struct {
	maker
	mutable []string // names of records that guards change
}

// small makes up a type of what patterns take apart.
func (m *chooser) small(depth int) api.Type {
	k := m.r.Intn(12)
	switch {
	case depth == 0 || k < 6:
		return named(pick(m.r, "int", "bool", "string", "exn", "t", "t", "r", "unit", "u"))
	case k < 8:
		return named("list", m.small(depth-1))
	}
	return named("*", m.small(depth-1), m.small(depth-1))
}

// value writes a value of a type: of few ones.
func (m *chooser) value(of api.Type, depth int) string {
	switch of.S {
	case "int":
		return strconv.Itoa(m.r.Intn(3))
	case "bool":
		return pick(m.r, "true", "false")
	case "unit":
		return "()"
	case "u":
		return pick(m.r, "U", "V")
	case "string":
		return pick(m.r, `"a"`, `"b"`, `""`)
	case "exn":
		return pick(m.r, "N", "Not_found", "(E "+m.value(named("string"), 0)+")", "(P ("+m.value(named("int"), 0)+", "+m.value(named("t"), depth-1)+"))")
	case "t":
		if depth <= 0 {
			return pick(m.r, "A", "D")
		}
		return pick(m.r, "A", "D", "(B "+m.value(named("int"), 0)+")", "(C ("+m.value(of, depth-1)+", "+m.value(of, depth-1)+"))")
	case "r":
		if m.r.Intn(3) > 0 {
			return pick(m.r, m.mutable...)
		}
		return "{x = " + m.value(named("int"), 0) + "; y = " + m.value(named("t"), depth-1) + "; z = " + m.value(named("int"), 0) + "}"
	case "list":
		var all []string
		for range m.r.Intn(3) {
			all = append(all, m.value(of.L[0], depth-1))
		}
		return "[" + strings.Join(all, "; ") + "]"
	}
	return "(" + m.value(of.L[0], depth-1) + ", " + m.value(of.L[1], depth-1) + ")"
}

// binding writes a pattern of a type that binds just these names.
func (m *chooser) binding(of api.Type, names []bound, depth int) string {
	if len(names) == 1 && same(names[0].t, of) && m.r.Intn(2) == 0 {
		if m.r.Intn(2) == 0 || depth <= 0 {
			return names[0].name
		}
		return "(" + m.binding(of, nil, depth-1) + " as " + names[0].name + ")"
	}
	for i, b := range names {
		if same(b.t, of) && m.r.Intn(4) == 0 {
			return "(" + m.binding(of, append(append([]bound{}, names[:i]...), names[i+1:]...), depth-1) + " as " + b.name + ")"
		}
	}
	if depth > 0 && m.r.Intn(4) == 0 {
		return "(" + m.binding(of, names, depth-1) + " | " + m.binding(of, names, depth-1) + ")"
	}
	if len(names) == 0 && (depth <= 0 || m.r.Intn(3) == 0) {
		return pick(m.r, "_", m.constant(of), m.constant(of))
	}
	return m.inParts(of, names, depth)
}

// constant writes a pattern of a type without parts, if there is one.
func (m *chooser) constant(of api.Type) string {
	switch of.S {
	case "int", "bool", "unit", "string", "u":
		return m.value(of, 0)
	case "exn":
		return pick(m.r, "N", "Not_found", "End_of_file")
	case "t":
		return pick(m.r, "A", "D")
	case "list":
		return "[]"
	}
	return "_"
}

// inParts writes a pattern that takes what is of a type apart, and binds the names in its parts. Where that can't be, it binds them by a way through what is at hand.
func (m *chooser) inParts(of api.Type, names []bound, depth int) string {
	at := m.r.Intn(len(names) + 1)
	left, right := names[:at], names[at:]
	switch of.S {
	case "t":
		if k := m.r.Intn(3); k == 0 && len(names) == 1 && same(names[0].t, named("int")) {
			return "(B " + m.binding(named("int"), names, depth-1) + ")"
		} else if k < 2 && (len(names) > 0 || depth > 0) && depth > -4 {
			return "(C (" + m.binding(of, left, depth-1) + ", " + m.binding(of, right, depth-1) + "))"
		}
	case "exn":
		if depth > -4 && (len(names) > 0 || m.r.Intn(2) == 0) {
			return "(P (" + m.binding(named("int"), left, depth-1) + ", " + m.binding(named("t"), right, depth-1) + "))"
		}
	case "r":
		if depth > -4 {
			return "{" + pick(m.r, "y = "+m.binding(named("t"), left, depth-1)+"; z = "+m.binding(named("int"), right, depth-1), "z = "+m.binding(named("int"), left, depth-1)+"; y = "+m.binding(named("t"), right, depth-1)) + "}"
		}
	case "list":
		if depth > -4 {
			return "(" + m.binding(of.L[0], left, depth-1) + " :: " + m.binding(of, right, depth-1) + ")"
		}
	case "*":
		return "(" + m.binding(of.L[0], left, depth-1) + ", " + m.binding(of.L[1], right, depth-1) + ")"
	}
	if len(names) > 0 {
		return "" // no such pattern
	}
	return m.constant(of)
}

// bindable tells names of a type's parts, as one may bind them.
func (m *chooser) bindable(of api.Type) []bound {
	var names []bound
	parts := []api.Type{of, of}
	switch of.S {
	case "t":
		parts = append(parts, named("int"), named("t"))
	case "exn", "r":
		parts = append(parts, named("int"), named("t"))
	case "list", "*":
		parts = append(parts, of.L...)
	}
	for range m.r.Intn(3) {
		names = append(names, bound{m.fresh(), pick(m.r, parts...)})
	}
	return names
}

// pattern writes a pattern of a type, which asks for something, as a rule, and tells what it binds.
func (m *chooser) pattern(of api.Type) (string, []bound) {
	for i := range 20 {
		names := m.bindable(of)
		s := m.binding(of, names, 3)
		asks := strings.ContainsAny(s, "ABCDEPUVN12[t\"")
		if isWhole(s) && len(s) < 200 && (asks || i > 15 || m.r.Intn(9) == 0) {
			return s, names
		}
	}
	return "_", nil
}

// isWhole tells whether a pattern has all of its parts.
func isWhole(s string) bool {
	if s == "" {
		return false
	}
	for _, gap := range []string{"( ", "(,", ", )", "= }", "= ;", "| )", "(B )", ":: )", "(as", "  "} {
		if strings.Contains(s, gap) {
			return false
		}
	}
	return true
}

// cases writes the cases of a choice: each shows its number and what it has bound.
func (m *chooser) cases(of api.Type) string {
	var all []string
	for i := range 1 + m.r.Intn(5) {
		s, names := m.pattern(of)
		if m.r.Intn(3) == 0 {
			s += " when " + m.guard(names)
		}
		all = append(all, s+" -> print_int "+strconv.Itoa(i)+m.shows(names))
	}
	return strings.Join(all, " | ")
}

func (m *chooser) shows(names []bound) string {
	s := ""
	for _, b := range names {
		s += "; h " + b.name
	}
	return s
}

// guard writes a guard that writes, changes something, or raises, and comes to 0 or 1.
func (m *chooser) guard(names []bound) string {
	r := pick(m.r, m.mutable...)
	does := pick(m.r, r+".y <- "+m.value(named("t"), 2), r+".z <- "+m.value(named("int"), 0), "print_int 7", "h "+r+".y", "()")
	if m.r.Intn(12) == 0 {
		does = "raise N"
	}
	if len(names) > 0 && m.r.Intn(3) == 0 {
		does = "h " + names[0].name
	}
	return "(" + does + "; " + pick(m.r, "false", "false", "true", r+".z = 1") + ")"
}

// program writes a program that asks for some values, each by the same cases, again and again.
func (m *chooser) program() string {
	s := head + "let h x = print_string \".\"; print_int (hash x mod 100) let rec each f l = match l with [] -> () | x :: k -> print_string \" \"; (try f x with e -> h e; print_string \"!\"); each f k "
	for i := range 2 {
		m.mutable = []string{"{x = 1; y = A; z = 1}"}
		s += "let m" + strconv.Itoa(i) + " = {x = " + m.value(named("int"), 0) + "; y = " + m.value(named("t"), 2) + "; z = " + m.value(named("int"), 0) + "} "
	}
	m.mutable = []string{"m0", "m1"}
	for range 1 + m.r.Intn(2) {
		of := m.small(2)
		if m.r.Intn(4) == 0 {
			of = named("exn")
			s += "let f x = try raise x with " + m.cases(of) + " "
		} else {
			s += "let f " + pick(m.r, "x = match x with ", "x = match x with ", "= function ") + m.cases(of) + " "
		}
		var all []string
		for range 4 + m.r.Intn(8) {
			all = append(all, m.value(of, 2))
		}
		s += "let _ = each f [" + strings.Join(all, "; ") + "] "
	}
	return s
}
