package lower_test

import (
	"math/rand"
	"strconv"
	"strings"

	"grapnel/api"
)

// maker makes up programs that have a type by the rules as one would write them down: each expression is made for a type that is wanted.
// Of a thousand choices wild are made without heed: then what comes of it may have no type.
type maker struct {
	r     *rand.Rand
	wild  int
	more  int // how many parts there may still be, about
	count int
	scope []bound
}

// bound is a name, and its type.
type bound struct {
	name string
	t    api.Type
}

// The greatest and the least number.
const (
	greatest = "4611686018427387903"
	least    = "(- 4611686018427387903 - 1)"
)

// prelude is what the programs that are made call, beside what they declare themselves.
const prelude = "let id x = x let first x y = x let twice f x = f (f x) let rec map f l = match l with [] -> [] | x :: k -> f x :: map f k " +
	"let rec fold f a l = match l with [] -> a | x :: k -> fold f (f a x) k let rec upto n l = if n < 1 then l else upto (n - 1) (n :: l) let say n x = print_int n; x "

func named(s string, parts ...api.Type) api.Type { return api.Type{S: s, L: parts} }

func (m *maker) heedless() bool { return m.r.Intn(1000) < m.wild }

// fresh tells a name that wasn't there.
func (m *maker) fresh() string {
	m.count++
	return "v" + strconv.Itoa(m.count)
}

func same(a, b api.Type) bool {
	if a.S != b.S || len(a.L) != len(b.L) {
		return false
	}
	for i := range a.L {
		if !same(a.L[i], b.L[i]) {
			return false
		}
	}
	return true
}

// some makes up a type of up to that depth.
func (m *maker) some(depth int) api.Type {
	k := m.r.Intn(12)
	switch {
	case depth == 0 || k < 6:
		return named(pick(m.r, "int", "int", "bool", "unit", "string", "exn", "t", "r"))
	case k < 8:
		return named(pick(m.r, "list", "list", "ref", "array"), m.some(depth-1))
	case k < 10:
		return named("->", m.some(depth-1), m.some(depth-1))
	}
	return named("*", m.some(depth-1), m.some(depth-1))
}

// held makes up a type of what is held against each other: as a rule there is no function in it.
func (m *maker) held() api.Type {
	t := m.some(2)
	for m.r.Intn(12) > 0 && hasArrow(t) {
		t = m.some(2)
	}
	return t
}

func hasArrow(t api.Type) bool {
	for _, p := range t.L {
		if hasArrow(p) {
			return true
		}
	}
	return t.S == "->"
}

// program writes a whole program.
func (m *maker) program() string {
	s := head + prelude
	for range 1 + m.r.Intn(3) {
		s += m.let() + " "
		m.more = max(m.more, 5)
	}
	for range 1 + m.r.Intn(3) {
		m.more = max(m.more, 20)
		s += "let _ = try " + m.seen() + " with " + m.arms(named("exn"), named("unit")) + " "
	}
	return s
}

// seen writes an expression that shows what another one comes to.
func (m *maker) seen() string {
	switch m.r.Intn(4) {
	case 0:
		return "print_int " + m.expr(named("int"))
	case 1:
		return "print_string " + m.expr(named("string"))
	case 2:
		return "print_int (hash " + m.expr(m.held()) + ")"
	}
	return "print_int (if " + m.expr(named("bool")) + " then 1 else 2)"
}

// use writes a name of the scope, applied to as much as makes it what is wanted, if there is one.
func (m *maker) use(want api.Type) (string, bool) {
	for _, i := range m.r.Perm(len(m.scope)) {
		b := m.scope[i]
		var args []api.Type
		for t := b.t; ; t = t.L[1] {
			if same(t, want) {
				return m.applied(b.name, args), true
			}
			if t.S != "->" || len(args) == 3 || m.more < 0 {
				break
			}
			args = append(args, t.L[0])
		}
	}
	return "", false
}

func (m *maker) applied(s string, args []api.Type) string {
	for _, a := range args {
		s += " (" + m.expr(a) + ")"
	}
	if len(args) > 0 {
		return "(" + s + ")"
	}
	return s
}

// within tells what f tells; what it binds isn't bound behind it.
func (m *maker) within(f func() string) string {
	around := len(m.scope)
	s := f()
	m.scope = m.scope[:around]
	return s
}

// expr writes an expression of a type.
func (m *maker) expr(want api.Type) string {
	m.more--
	if m.heedless() {
		want = m.some(2)
	}
	if m.heedless() && len(m.scope) > 0 {
		b, c := pick(m.r, m.scope...), pick(m.r, m.scope...)
		return pick(m.r, b.name, "("+b.name+" "+c.name+")", "("+b.name+" "+b.name+")", "["+b.name+"; "+c.name+"]")
	}
	if m.r.Intn(3) == 0 || m.more < 0 {
		if s, ok := m.use(want); ok {
			return s
		}
	}
	switch k := m.r.Intn(12); {
	case m.more < 0:
		return m.made(want)
	case k < 4:
		return "(" + m.guided(want) + ")"
	case k < 6:
		return "(" + m.called(want) + ")"
	case k < 8:
		return "(print_int " + strconv.Itoa(m.r.Intn(9)) + "; " + m.made(want) + ")"
	}
	return m.made(want)
}

// any writes an expression of any type, and tells that.
func (m *maker) any() (string, api.Type) {
	t := m.some(2)
	return m.expr(t), t
}

// called writes a call of the prelude.
func (m *maker) called(want api.Type) string {
	t := m.some(1)
	switch m.r.Intn(6) {
	case 0:
		return "id " + m.expr(want)
	case 1:
		return "first " + m.expr(want) + " " + m.expr(t)
	case 2:
		return "twice " + m.expr(named("->", want, want)) + " " + m.expr(want)
	case 3:
		return "fold " + m.expr(named("->", want, named("->", t, want))) + " " + m.expr(want) + " " + m.expr(named("list", t))
	case 4:
		if want.S == "list" {
			return "map " + m.expr(named("->", t, want.L[0])) + " " + m.expr(named("list", t))
		}
		return "id id id " + m.expr(want)
	}
	return "say " + strconv.Itoa(m.r.Intn(9)) + " " + m.expr(want)
}

// made writes an expression that has a type by its form.
func (m *maker) made(want api.Type) string {
	switch want.S {
	case "int":
		return m.number()
	case "bool":
		return m.truth()
	case "unit":
		return m.unit()
	case "string":
		return m.text()
	case "exn":
		if m.more < 0 || m.r.Intn(2) == 0 {
			return pick(m.r, "N", "Not_found", "Division_by_zero", "Invalid_argument")
		}
		return pick(m.r, func() string { return "(E " + m.expr(named("string")) + ")" }, func() string { return "(Failure " + m.expr(named("string")) + ")" }, func() string { return "(P (" + m.expr(named("int")) + ", " + m.expr(named("t")) + "))" })()
	case "t":
		if m.more < 0 || m.r.Intn(2) == 0 {
			return pick(m.r, "A", "D")
		}
		return pick(m.r, func() string { return "(B " + m.expr(named("int")) + ")" }, func() string { return "(C (" + m.expr(named("t")) + ", " + m.expr(named("t")) + "))" })()
	case "r":
		x, y, z := "x = "+m.expr(named("int")), "y = "+m.expr(named("t")), "z = "+m.expr(named("int"))
		return "{" + pick(m.r, x+"; "+y+"; "+z, z+"; "+x+"; "+y, y+"; "+x+"; "+z) + "}"
	case "list":
		return m.list(want)
	case "ref":
		return "(ref " + m.expr(want.L[0]) + ")"
	case "array":
		return m.array(want)
	case "->":
		return m.function(want)
	}
	return "(" + m.expr(want.L[0]) + ", " + m.expr(want.L[1]) + ")"
}

func (m *maker) number() string {
	small := strconv.Itoa(m.r.Intn(5))
	if m.more < 0 {
		return small
	}
	t := m.some(1)
	switch m.r.Intn(12) {
	case 0, 1:
		return "(" + m.expr(named("int")) + pick(m.r, " + ", " - ", " * ", " + ", " - ", " * ", " / ", " mod ") + m.expr(named("int")) + ")"
	case 2:
		return "(- " + m.expr(named("int")) + ")"
	case 3:
		return "(string_length " + m.expr(named("string")) + ")"
	case 4:
		return pick(m.r, "(string_get (\"abc\" ^ "+m.expr(named("string"))+") "+m.expr(named("int"))+")", "(int_of_string (string_of_int "+m.expr(named("int"))+"))")
	case 5:
		return "(array_length " + m.expr(named("array", t)) + ")"
	case 6:
		t = m.held()
		return "(compare " + m.expr(t) + " " + m.expr(t) + ")"
	case 7:
		return "(hash " + m.expr(m.held()) + " mod 7)"
	case 8:
		return "(" + m.expr(named("r")) + ")." + pick(m.r, "x", "z")
	case 9:
		return pick(m.r, greatest, least, "("+greatest+" - "+m.expr(named("int"))+")")
	}
	return small
}

func (m *maker) truth() string {
	if m.more < 0 {
		return pick(m.r, "true", "false")
	}
	t := m.held()
	switch m.r.Intn(6) {
	case 0, 1, 2:
		return "(" + m.expr(t) + pick(m.r, " = ", " <> ", " < ", " > ", " <= ", " >= ") + m.expr(t) + ")"
	case 3:
		return "(not " + m.expr(named("bool")) + ")"
	case 4:
		return "(" + m.expr(named("bool")) + pick(m.r, " && ", " || ") + m.expr(named("bool")) + ")"
	}
	return pick(m.r, "true", "false")
}

func (m *maker) unit() string {
	if m.more < 0 {
		return pick(m.r, "()", "(print_int 7)")
	}
	t := m.some(1)
	switch m.r.Intn(8) {
	case 0:
		return "(" + m.seen() + ")"
	case 1:
		return "(" + m.expr(named("ref", t)) + " := " + m.expr(t) + ")"
	case 2:
		return "((" + m.expr(named("array", t)) + ").(" + m.place() + ") <- " + m.expr(t) + ")"
	case 3:
		return "((" + m.expr(named("r")) + ")." + pick(m.r, "y <- "+m.expr(named("t")), "z <- "+m.expr(named("int"))) + ")"
	case 4:
		return m.while()
	case 5:
		return "(if " + m.expr(named("bool")) + " then " + m.expr(named("unit")) + ")"
	case 6:
		return "(" + m.loop() + ")"
	}
	return "()"
}

// place writes which element of an array is meant: as a rule there is such a one.
func (m *maker) place() string {
	if m.r.Intn(6) == 0 {
		return m.expr(named("int"))
	}
	return pick(m.r, "0", "0", "1")
}

// while writes a loop that goes round a few times, as a rule.
func (m *maker) while() string {
	return m.within(func() string {
		n := m.fresh()
		s := "(let " + n + " = ref " + strconv.Itoa(m.r.Intn(4)) + " in while !" + n + " > 0 do "
		m.scope = append(m.scope, bound{n, named("ref", named("int"))})
		body, _ := m.any()
		return s + n + " := !" + n + " - 1; " + body + " done)"
	})
}

func (m *maker) loop() string {
	return m.within(func() string {
		n := m.fresh()
		s := "for " + n + " = " + m.expr(named("int")) + pick(m.r, " to ", " downto ") + m.expr(named("int"))
		m.scope = append(m.scope, bound{n, named("int")})
		body, _ := m.any()
		return s + " do " + body + " done"
	})
}

func (m *maker) text() string {
	if m.more < 0 {
		return pick(m.r, `"a"`, `"bc"`)
	}
	switch m.r.Intn(5) {
	case 0:
		return "(" + m.expr(named("string")) + " ^ " + m.expr(named("string")) + ")"
	case 1:
		return "(string_of_int " + m.expr(named("int")) + ")"
	case 2, 3:
		return "(read_line ())"
	}
	return pick(m.r, `"a"`, `"bc"`, `""`)
}

func (m *maker) list(want api.Type) string {
	if m.more < 0 || m.r.Intn(4) == 0 {
		return "[]"
	}
	if same(want.L[0], named("int")) && m.r.Intn(2) == 0 {
		return "(upto " + strconv.Itoa(m.r.Intn(5)) + " " + m.expr(want) + ")"
	}
	if m.r.Intn(2) == 0 {
		return "(" + m.expr(want.L[0]) + " :: " + m.expr(want) + ")"
	}
	return "[" + m.expr(want.L[0]) + "; " + m.expr(want.L[0]) + "]"
}

func (m *maker) array(want api.Type) string {
	switch k := m.r.Intn(5); {
	case k == 0:
		return "[||]"
	case m.more < 0:
		return "[|" + m.expr(want.L[0]) + "|]"
	case k == 1:
		return "(array_make " + strconv.Itoa(m.r.Intn(5)) + " " + m.expr(want.L[0]) + ")"
	}
	return "[|" + m.expr(want.L[0]) + "; " + m.expr(want.L[0]) + strings.Repeat("; "+m.expr(want.L[0]), m.r.Intn(2)) + "|]"
}

func pick[T any](r *rand.Rand, all ...T) T { return all[r.Intn(len(all))] }
