package infer_test

import (
	"maps"
	"math/rand"
	"slices"
	"strconv"
	"strings"

	"grapnel/api"
)

// maker makes up expressions that have a type by the rules as one would write them down, without a Table: each is made for a type that is wanted.
// Of a thousand choices wild are made without heed: then what comes of it may have no type.
// What is general in a name's type are types of names of their own, which nothing else has while its value is made.
type maker struct {
	r     *rand.Rand
	wild  int
	more  int // how many parts there may still be, about
	count int
	scope []bound
}

// bound is a name, its type, and which names in that are general.
type bound struct {
	name    string
	t       api.Type
	general []string
}

func newMaker(seed int64, wild, more int) *maker {
	return &maker{r: rand.New(rand.NewSource(seed)), wild: wild, more: more}
}

func named(s string, parts ...api.Type) api.Type { return api.Type{S: s, L: parts} }

func (m *maker) heedless() bool { return m.r.Intn(1000) < m.wild }

func pick[T any](m *maker, all ...T) T { return all[m.r.Intn(len(all))] }

// fresh tells a name that wasn't there.
func (m *maker) fresh() string {
	m.count++
	return "v" + strconv.Itoa(m.count)
}

// some makes up a type of up to that depth, of these names beside those that are declared.
func (m *maker) some(depth int, names ...string) api.Type {
	k := m.r.Intn(12)
	switch {
	case len(names) > 0 && k < 5:
		return named(pick(m, names...))
	case depth == 0 || k < 6:
		return named(pick(m, "int", "bool", "unit", "string", "exn", "t", "r"))
	case k < 8:
		return named(pick(m, "list", "list", "ref", "array"), m.some(depth-1, names...))
	case k < 10:
		return named("->", m.some(depth-1, names...), m.some(depth-1, names...))
	case k == 10:
		return named("*", m.some(depth-1, names...), m.some(depth-1, names...), m.some(depth-1, names...))
	}
	return named("*", m.some(depth-1, names...), m.some(depth-1, names...))
}

// fits tells whether a type is another one with others for the general names, and notes which.
func fits(t, want api.Type, general []string, by map[string]api.Type) bool {
	if slices.Contains(general, t.S) && len(t.L) == 0 {
		is, ok := by[t.S]
		by[t.S] = want
		return !ok || same(is, want)
	}
	if t.S != want.S || len(t.L) != len(want.L) {
		return false
	}
	for i := range t.L {
		if !fits(t.L[i], want.L[i], general, by) {
			return false
		}
	}
	return true
}

// put tells a type with others for some names.
func put(t api.Type, by map[string]api.Type) api.Type {
	if is, ok := by[t.S]; ok {
		return is
	}
	other := api.Type{S: t.S}
	for _, p := range t.L {
		other.L = append(other.L, put(p, by))
	}
	return other
}

// use writes a name of the scope, applied to as much as makes it what is wanted, if there is one.
func (m *maker) use(want api.Type) (string, bool) {
	for _, i := range m.r.Perm(len(m.scope)) {
		b := m.scope[i]
		var args []api.Type
		for t := b.t; ; t = t.L[1] {
			by := map[string]api.Type{}
			if fits(t, want, b.general, by) {
				return m.applied(b, args, by), true
			}
			if t.S != "->" || len(args) == 3 || m.more < 0 {
				break
			}
			args = append(args, t.L[0])
		}
	}
	return "", false
}

func (m *maker) applied(b bound, args []api.Type, by map[string]api.Type) string {
	by = maps.Clone(by)
	for _, g := range b.general {
		if _, ok := by[g]; !ok {
			by[g] = m.some(1)
		}
	}
	s := b.name
	for _, a := range args {
		s += " (" + m.expr(put(a, by)) + ")"
	}
	if len(args) > 0 {
		return "(" + s + ")"
	}
	return s
}

// within tells what f tells; what it binds isn't bound behind it.
func (m *maker) within(f func() string) string {
	around := len(m.scope)
	s := f()
	m.scope = m.scope[:around]
	return s
}

// expr writes an expression of a type.
func (m *maker) expr(want api.Type) string {
	m.more--
	if m.heedless() {
		want = m.some(2)
	}
	if m.heedless() && len(m.scope) > 0 {
		b, c := pick(m, m.scope...), pick(m, m.scope...)
		return pick(m, b.name, "("+b.name+" "+c.name+")", "("+b.name+" "+b.name+")", "["+b.name+"; "+c.name+"]", "(fun x -> x x)")
	}
	if m.r.Intn(3) == 0 || m.more < 0 {
		if s, ok := m.use(want); ok {
			return s
		}
	}
	if m.more > 0 && m.r.Intn(2) == 0 {
		return "(" + m.guided(want) + ")"
	}
	return m.made(want)
}

// any writes an expression of any type, and tells that.
func (m *maker) any() (string, api.Type) {
	t := m.some(2)
	return m.expr(t), t
}

// made writes an expression that has a type by its form.
func (m *maker) made(want api.Type) string {
	switch want.S {
	case "int":
		return m.number()
	case "bool":
		return m.truth()
	case "unit":
		return m.unit()
	case "string":
		return m.text()
	case "exn":
		return pick(m, "N", "Not_found", "Division_by_zero", "(E ("+m.expr(named("string"))+"))", "(P ("+m.expr(named("int"))+", "+m.expr(named("r"))+"))")
	case "t":
		return pick(m, "A", "D", "(B ("+m.expr(named("int"))+"))")
	case "r":
		return m.record()
	case "list":
		return m.list(want)
	case "ref":
		return "(ref (" + m.expr(want.L[0]) + "))"
	case "array":
		return m.array(want)
	case "->":
		return m.function(want)
	case "*":
		return m.tuple(want)
	}
	return pick(m, "(raise ("+m.expr(named("exn"))+"))", "(exit "+m.expr(named("int"))+")")
}

func (m *maker) number() string {
	if m.more < 0 {
		return strconv.Itoa(m.r.Intn(99))
	}
	switch m.r.Intn(10) {
	case 0, 1:
		return "(" + m.expr(named("int")) + pick(m, " + ", " - ", " * ", " / ", " mod ") + m.expr(named("int")) + ")"
	case 2:
		return "(- " + m.expr(named("int")) + ")"
	case 3:
		return "(" + pick(m, "string_length ", "int_of_string ") + m.expr(named("string")) + ")"
	case 4:
		return "(string_get " + m.expr(named("string")) + " " + m.expr(named("int")) + ")"
	case 5:
		return "(array_length " + m.expr(named("array", m.some(1))) + ")"
	case 6:
		t := m.some(1)
		return "(compare " + m.expr(t) + " " + m.expr(t) + ")"
	case 7:
		return "(hash " + m.expr(m.some(1)) + ")"
	case 8:
		return "(" + m.expr(named("r")) + ").x"
	}
	return strconv.Itoa(m.r.Intn(99))
}

func (m *maker) truth() string {
	if m.more < 0 {
		return pick(m, "true", "false")
	}
	switch m.r.Intn(5) {
	case 0, 1:
		t := m.some(1)
		return "(" + m.expr(t) + pick(m, " = ", " <> ", " < ", " > ", " <= ", " >= ") + m.expr(t) + ")"
	case 2:
		return "(not " + m.expr(named("bool")) + ")"
	case 3:
		return "(" + m.expr(named("bool")) + pick(m, " && ", " || ") + m.expr(named("bool")) + ")"
	}
	return pick(m, "true", "false")
}

func (m *maker) unit() string {
	if m.more < 0 {
		return "()"
	}
	t := m.some(1)
	switch m.r.Intn(8) {
	case 0:
		return "(print_int " + m.expr(named("int")) + ")"
	case 1:
		return "(print_string " + m.expr(named("string")) + ")"
	case 2:
		return "(" + m.expr(named("ref", t)) + " := " + m.expr(t) + ")"
	case 3:
		return "((" + m.expr(named("array", t)) + ").(" + m.expr(named("int")) + ") <- " + m.expr(t) + ")"
	case 4:
		return "((" + m.expr(named("r")) + ").y <- " + m.expr(named("t")) + ")"
	case 5:
		s, _ := m.any()
		return "(while " + m.expr(named("bool")) + " do " + s + " done)"
	case 6:
		return "(if " + m.expr(named("bool")) + " then " + m.expr(named("unit")) + ")"
	}
	return "(" + m.loop() + ")"
}

func (m *maker) loop() string {
	return m.within(func() string {
		s := "for v" + pick(m, "0", "00") + " = " + m.expr(named("int")) + pick(m, " to ", " downto ") + m.expr(named("int"))
		m.scope = append(m.scope, bound{name: strings.Fields(s)[1], t: named("int")})
		body, _ := m.any()
		return s + " do " + body + " done"
	})
}

func (m *maker) text() string {
	if m.more < 0 {
		return `"s"`
	}
	return pick(m, func() string { return `"s"` },
		func() string { return "(" + m.expr(named("string")) + " ^ " + m.expr(named("string")) + ")" },
		func() string { return "(string_of_int " + m.expr(named("int")) + ")" },
		func() string { return "(read_line ())" })()
}

func (m *maker) record() string {
	a, b := "x = "+m.expr(named("int")), "y = "+m.expr(named("t"))
	return pick(m, "{"+a+"; "+b+"}", "{"+b+"; "+a+"}")
}

func (m *maker) list(want api.Type) string {
	if m.more < 0 || m.r.Intn(3) == 0 {
		return "[]"
	}
	if m.r.Intn(2) == 0 {
		return "(" + m.expr(want.L[0]) + " :: " + m.expr(want) + ")"
	}
	return "[" + m.expr(want.L[0]) + "; " + m.expr(want.L[0]) + "]"
}

func (m *maker) array(want api.Type) string {
	switch k := m.r.Intn(4); {
	case m.more < 0 || k == 0:
		return "[||]"
	case k == 1:
		return "(array_make " + m.expr(named("int")) + " " + m.expr(want.L[0]) + ")"
	}
	return "[|" + m.expr(want.L[0]) + "; " + m.expr(want.L[0]) + "|]"
}

func (m *maker) tuple(want api.Type) string {
	var parts []string
	for _, p := range want.L {
		parts = append(parts, m.expr(p))
	}
	return "(" + strings.Join(parts, ", ") + ")"
}
