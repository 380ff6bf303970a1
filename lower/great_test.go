package lower_test

import (
	"fmt"
	"strconv"
	"strings"
	"testing"

	"grapnel/api"
	"grapnel/infer"
	"grapnel/lam"
	"grapnel/lower"
	"grapnel/model"
)

// k tells a core's node that has nothing but a number and parts.
func k(kind int, n int64, parts ...api.Core) api.Core { return api.Core{Kind: kind, N: n, L: parts} }

func num(n int64) api.Core { return k(api.KInt, n) }

func at(v int) api.Core { return api.Core{Kind: api.KVar, V: v} }

func con(s string, n int64, parts ...api.Core) api.Core {
	return api.Core{Kind: api.KCon, S: s, N: n, L: parts}
}

func unit() api.Core { return con("()", 0) }

func say(c api.Core) api.Core {
	return k(api.KApp, 0, k(api.KBuiltin, api.BPrintInt), c)
}

func fun(v int, params int64, body api.Core) api.Core {
	return api.Core{Kind: api.KFun, N: params, V: v, L: []api.Core{body}}
}

func let(v int, a, b api.Core) api.Core {
	return api.Core{Kind: api.KLet, V: v, L: []api.Core{a, b}}
}

func seq(a, b api.Core) api.Core { return k(api.KSeq, 0, a, b) }

func match(of api.Core, cases ...api.Core) api.Core {
	return k(api.KMatch, 0, append([]api.Core{of}, cases...)...)
}

func when(parts ...api.Core) api.Core { return k(api.KCase, 0, parts...) }

func name(v int) api.Core { return api.Core{Kind: api.QVar, V: v} }

func anyone() api.Core { return k(api.QAny, 0) }

func qnum(n int64) api.Core { return k(api.QInt, n) }

func qcon(s string, n int64, parts ...api.Core) api.Core {
	return api.Core{Kind: api.QCon, S: s, N: n, L: parts}
}

// either tells a pattern of some ways.
func either(ways ...api.Core) api.Core {
	if len(ways) == 1 {
		return ways[0]
	}
	return k(api.QOr, 0, ways[0], either(ways[1:]...))
}

func truth(is bool) api.Core {
	if is {
		return con("true", 1)
	}
	return con("false", 0)
}

func repeat(c api.Core, many int) []api.Core {
	var all []api.Core
	for range many {
		all = append(all, c)
	}
	return all
}

// declared tells what the cores name: type s = Z | S of s | T of s * s.
func declared() api.Decls {
	d, _, _ := resolved("type s = Z | S of s | T of s * s")
	return d
}

// is holds that a core has a type, and that lower tells a program that keeps its meaning.
func is(t *testing.T, what string, c api.Core) api.Lams {
	t.Helper()
	d := declared()
	if _, e, _ := infer.Infer(d, c); e != api.OK {
		t.Fatalf("%s: infer tells %d", what, e)
	}
	p, e := lower.Of(d, c)
	if e != api.OK || !lam.May(p) {
		t.Fatalf("%s: of %d nodes: lower tells %d, it may be: %v, of %d nodes, %d deep", what, counted(c), e, lam.May(p), len(listed(p.Body)), deep(p.Body))
	}
	b := both{d, c, p, []string{"a"}, enough}
	if w := b.differs(100); w != "" {
		t.Errorf("%s: %s", what, w)
	}
	if last := b.model(enough); last.Kind == model.OutOfFuel {
		t.Errorf("%s: has no end", what)
	}
	return p
}

// deep tells how deep a lambda form is.
func deep(c api.Lam) int {
	most := 0
	for _, p := range c.L {
		most = max(most, deep(p))
	}
	return most + 1
}

// filled tells a core that has the value of another one, and just so many nodes.
func filled(c api.Core, nodes int64) api.Core {
	for counted(c) < nodes-1 {
		c = seq(unit(), c)
	}
	if counted(c) < nodes {
		c = k(api.KOp, api.OpNeg, c) // of an int
	}
	return c
}

// list tells a list of numbers.
func list(many int64) api.Core {
	c := con("[]", 0)
	for i := range many {
		c = con("::", 0, num(i), c)
	}
	return c
}

// qlist tells a pattern of a list of as many parts.
func qlist(parts ...api.Core) api.Core {
	if len(parts) == 0 {
		return qcon("[]", 0)
	}
	return qcon("::", 0, parts[0], qlist(parts[1:]...))
}

// succ tells a value S (S .. Z), or a pattern of it.
func succ(many int, z api.Core) api.Core {
	kind := api.QCon
	if z.Kind == api.KCon {
		kind = api.KCon
	}
	for range many {
		z = api.Core{Kind: kind, S: "S", L: []api.Core{z}}
	}
	return z
}

// shapes tells cores, each of as many nodes as may be, or about; all of them ints.
func shapes() map[string]func(nodes int64) api.Core {
	return map[string]func(int64) api.Core{
		"list": func(n int64) api.Core {
			return match(list((n-8)/2), when(qcon("[]", 0), num(1)), when(anyone(), num(2)))
		},
		"seqs": func(n int64) api.Core { return num(1) }, // what fills it is seqs
		"seqs left": func(n int64) api.Core {
			c := unit()
			for counted(c) < n-4 {
				c = seq(c, unit())
			}
			return seq(c, num(3))
		},
		"lets": func(n int64) api.Core {
			c := at(int(n/2) - 3)
			for i := int(n/2) - 3; i >= 0; i-- {
				value := num(7)
				if i > 0 {
					value = at(i - 1)
				}
				c = let(i, value, c)
			}
			return c
		},
		"matches of all": func(n int64) api.Core {
			c := num(5)
			for range (n - 3) / 4 {
				c = match(num(1), when(anyone(), c))
			}
			return c
		},
		"matches of names": func(n int64) api.Core {
			many := int(n-3) / 4
			c := at(many - 1)
			for i := many - 1; i >= 0; i-- {
				c = match(num(int64(i)), when(name(i), c))
			}
			return c
		},
		"matches of matches": func(n int64) api.Core {
			c := num(0)
			for range (n - 3) / 7 {
				c = match(c, when(qnum(0), num(0)), when(anyone(), num(1)))
			}
			return c
		},
		"tries": func(n int64) api.Core {
			c := k(api.KRaise, 0, con("Not_found", 4))
			for range (n - 8) / 8 {
				c = k(api.KTry, 0, c, when(qcon("Not_found", 4), num(1)), when(qcon("Failure", 0, k(api.QText, 0)), num(2)))
			}
			return c
		},
		"tries that raise": func(n int64) api.Core {
			c := con("Not_found", 4)
			for range (n - 8) / 5 {
				c = k(api.KTry, 0, k(api.KRaise, 0, c), when(qcon("End_of_file", 3), con("Not_found", 4)))
			}
			return seq(k(api.KRaise, 0, c), num(1))
		},
		"handlers": func(n int64) api.Core {
			c := num(8)
			for range (n - 8) / 5 {
				c = k(api.KTry, 0, k(api.KRaise, 0, con("Not_found", 4)), when(qcon("Not_found", 4), c))
			}
			return c
		},
		"functions": func(n int64) api.Core {
			many := int(n-3) / 3
			c := num(9)
			for i := many - 1; i >= 0; i-- {
				c = seq(fun(30*i, 30, c), num(2))
			}
			return c
		},
		"applications": func(n int64) api.Core {
			many := int(n-4) / 3
			c := num(9)
			for range many {
				c = k(api.KApp, 0, fun(0, 1, at(0)), c)
			}
			return c
		},
		"arguments": func(n int64) api.Core {
			return k(api.KApp, 0, append([]api.Core{k(api.KBuiltin, api.BExit)}, repeat(num(7), int(n)-3)...)...)
		},
		"written arguments": func(n int64) api.Core {
			return k(api.KApp, 0, append([]api.Core{k(api.KBuiltin, api.BExit)}, repeat(seq(say(num(3)), num(7)), int(n-5)/5)...)...)
		},
		"array": func(n int64) api.Core {
			return k(api.KAt, 0, k(api.KArray, 0, repeat(num(6), int(n)-5)...), num(900%(n-5)))
		},
		"built-in functions": func(n int64) api.Core {
			return k(api.KApp, 0, k(api.KAt, 0, k(api.KArray, 0, repeat(k(api.KBuiltin, api.BByte), int(n)-9)...), num(5)), api.Core{Kind: api.KText, S: "abc"}, num(2))
		},
		"branches": func(n int64) api.Core {
			c := num(4)
			for i := range (n - 4) / 3 {
				c = k(api.KIf, 0, truth(i%2 == 1), num(i), c)
			}
			return c
		},
		"operations": func(n int64) api.Core {
			c := num(1)
			for range (n - 4) / 2 {
				c = k(api.KOp, api.OpAdd, c, num(2))
			}
			return c
		},
		"loops": func(n int64) api.Core {
			c := unit()
			for i := range int(n-6) / 3 {
				c = api.Core{Kind: api.KFor, N: int64(i % 2), V: (int(n-6)/3 - i - 1), L: []api.Core{num(1), num(1), c}}
			}
			return seq(c, num(1))
		},
		"recursions": func(n int64) api.Core {
			many := int(n-4) / 62
			c := num(2)
			for i := many - 1; i >= 0; i-- {
				var parts []api.Core
				for range 30 {
					parts = append(parts, fun(30*(i+1), 30, at(30*(i+1)+29)))
				}
				c = api.Core{Kind: api.KRec, N: 30, V: 30 * i, L: append(parts, c)}
			}
			return c
		},
	}
}

// P14.1: cores of 1000 nodes, of each shape; and of one more, which may be too great.
func TestThousandNodes(t *testing.T) {
	for what, shape := range shapes() {
		for _, n := range []int64{20, 100, 999, 1000} {
			is(t, fmt.Sprint(what, n), filled(shape(n), n))
		}
		c := filled(shape(1000), 1001)
		if p, e := lower.Of(declared(), c); e != api.ErrMany && (e != api.OK || !lam.May(p)) || e != api.OK && (p.Exns != nil || p.Body.Kind != 0) {
			t.Errorf("%s: of 1001 nodes: %d", what, e)
		}
	}
}

// padded tells a pattern with names ahead, from v on, so that it has just as many nodes.
func padded(q api.Core, nodes int64, v int) api.Core {
	if counted(q) < nodes {
		return api.Core{Kind: api.QAs, V: v, L: []api.Core{padded(q, nodes-1, v+1)}}
	}
	return q
}

func texts(kind, many int) []api.Core {
	return repeat(api.Core{Kind: kind, S: "a"}, many)
}

// greats tells values, and patterns of so many nodes, or one less, that ask for them.
func greats(n int) map[string][2]api.Core {
	var ways, pairs []api.Core
	for i := range n / 2 {
		ways = append(ways, qnum(int64(-i)))
	}
	for i := range n / 6 {
		pairs = append(pairs, either(qcon("S", 0, succ(i%3, qcon("Z", 0))), qcon("T", 1, k(api.QTuple, 0, anyone(), anyone()))))
	}
	pair := con("T", 1, k(api.KTuple, 0, con("Z", 0), con("Z", 0)))
	return map[string][2]api.Core{
		"S":            {succ(3, con("Z", 0)), succ(n-1, qcon("Z", 0))},
		"S met":        {succ(n-1, con("Z", 0)), succ(n-1, qcon("Z", 0))},
		"list":         {list(3), qlist(repeat(qnum(1), (n-1)/2)...)},
		"list met":     {con("::", 0, num(1), con("::", 0, num(1), con("[]", 0))), qcon("::", 0, qnum(1), either(repeat(qlist(qnum(1)), n/4)...))},
		"ways":         {num(-40), either(ways...)},
		"list of ways": {con("::", 0, pair, con("::", 0, pair, con("[]", 0))), qlist(pairs[:n/10]...)},
		"array":        {k(api.KArray, 0, num(1)), anyone()},
		"texts":        {con("::", 0, api.Core{Kind: api.KText, S: "a"}, con("[]", 0)), qlist(texts(api.QText, (n-1)/2)...)},
	}
}

// P14.1: choices whose patterns have 150 nodes; and one more, which may be too great.
func TestGreatPatterns(t *testing.T) {
	for n := 140; n <= 150; n++ {
		for what, x := range greats(n) {
			is(t, what, match(x[0], when(padded(x[1], int64(n), 0), num(1))))
			if x[1] = padded(x[1], int64(n)-1, 0); counted(x[1]) != int64(n)-1 {
				continue
			}
			is(t, what, match(x[0], when(x[1], num(1)), when(anyone(), num(2))))
			is(t, what, match(x[0], when(anyone(), truth(false), num(2)), when(x[1], num(1))))
			is(t, what, k(api.KTry, 0, num(3), when(qcon("Not_found", 4), num(2)), when(padded(qcon("End_of_file", 3), int64(n)-1, 0), num(1))))
		}
	}
	for what, x := range greats(150) {
		q := padded(x[1], 151, 0)
		for _, c := range []api.Core{match(x[0], when(q, num(1))), match(x[0], when(anyone(), num(1)), when(padded(x[1], 150, 0), num(1)))} {
			if p, e := lower.Of(declared(), c); e != api.ErrMany && (e != api.OK || !lam.May(p)) || e != api.OK && (p.Exns != nil || p.Body.Kind != 0) {
				t.Errorf("%s: of 151 nodes: %d", what, e)
			}
		}
	}
}

// P14.1: as many great choices, within each other's cases, as there is room for.
func TestDeepestPatterns(t *testing.T) {
	for what, q := range map[string]api.Core{
		"S": succ(149, qcon("Z", 0)), "S with a name": succ(149, name(1)), "either": either(succ(73, qcon("Z", 0)), succ(74, qcon("Z", 0))),
	} {
		for _, value := range []api.Core{at(0), succ(0, con("Z", 0)), k(api.KOp, api.OpDeref, k(api.KOp, api.OpRef, at(0)))} {
			for _, more := range []api.Core{when(anyone(), num(5)), {}} {
				c := num(7)
				for {
					m := match(value, when(q, c))
					if more.Kind != 0 {
						m = match(value, when(succ(148, qcon("Z", 0)), c), more)
					}
					if counted(m) > 996 {
						break
					}
					c = m
				}
				is(t, what, filled(let(0, fun(0, 1, c), num(1)), 1000))
			}
		}
	}
	// each within the other one's value
	c := con("Z", 0)
	for counted(c) < 840 {
		c = match(c, when(succ(148, qcon("Z", 0)), con("Z", 0)), when(anyone(), con("Z", 0)))
	}
	is(t, "values", c)
	// the last of many cases
	c = num(3)
	for counted(c) < 700 {
		var cases []api.Core
		for i := range int64(98) {
			cases = append(cases, when(qnum(i), num(i)))
		}
		c = match(num(200), append(cases, when(anyone(), c))...)
	}
	is(t, "cases", c)
	c = num(3)
	for counted(c) < 500 {
		var cases []api.Core
		for range 100 {
			cases = append(cases, when(anyone(), truth(false), num(4)))
		}
		c = match(num(200), append(cases, when(anyone(), c))...)
	}
	is(t, "guards", c)
	c = num(3)
	for counted(c) < 500 {
		cases := []api.Core{when(k(api.QTuple, 0, qnum(0), qnum(0)), num(1))}
		for i := range int64(24) { // by turns a number and any
			cases = append(cases, when(k(api.QTuple, 0, []api.Core{qnum(i), anyone()}[i%2], []api.Core{anyone(), qnum(i)}[i%2]), num(i)))
		}
		c = match(k(api.KTuple, 0, num(200), num(300)), append(cases, when(anyone(), c))...)
	}
	is(t, "by turns", c)
}

// P14.1: functions and recursions of 30, and of 31, which may be too great.
func TestManyParameters(t *testing.T) {
	for _, many := range []int{1, 2, 29, 30, 31} {
		sum, params, args := "0", "", ""
		var rec []string
		for i := range many {
			x := "x" + strconv.Itoa(i)
			params += " " + x
			sum += " + " + strconv.Itoa(i) + " * " + x
			args += " " + strconv.Itoa(i)
			rec = append(rec, "r"+strconv.Itoa(i)+" n = if n = 0 then "+strconv.Itoa(i)+" else r"+strconv.Itoa((i+1)%many)+" (n - 1)")
		}
		f := "let f" + params + " = " + sum + " "
		last := strings.LastIndex(args, " ")
		for _, s := range []string{
			f + "let _ = print_int (f" + args + ")", f + "let _ = print_int ((f" + args[:last] + ") " + args[last:] + ")", "let f = fun" + params + " -> " + sum + " let _ = print_int ((fun g -> g" + args + ") f)",
			f + "let g = f 0 let _ = print_int (" + strings.Repeat("(", many-1) + "g" + strings.ReplaceAll(args[2:], " ", ") ") + ")",
			"let rec " + strings.Join(rec, " and ") + " let _ = print_int (r0 40); print_int (r" + strconv.Itoa(many-1) + " 3)",
		} {
			if many == 1 && strings.Contains(s, "let g") {
				continue
			}
			d, c, ok := resolved(s)
			if !ok || !isTyped(d, c) {
				t.Fatalf("%s: has no type", s)
			}
			p, e := lower.Of(d, c)
			if many > 30 && e == api.ErrMany && p.Exns == nil && p.Body.Kind == 0 {
				continue
			}
			b := both{d, c, p, nil, enough}
			if w := b.differs(300); e != api.OK || w != "" {
				t.Errorf("%s: %d: %s", s, e, w)
			}
		}
	}
}

// P14.2: a way binds more variables than one LExit brings; also where one stands in another one.
func TestManyBound(t *testing.T) {
	for _, many := range []int{1, 2, 28, 29, 30, 31, 32, 35} {
		var left, right, names []string
		var values []string
		for i := range many {
			names = append(names, "x"+strconv.Itoa(i))
			left = append(left, names[i])
			right = append([]string{names[i]}, right...)
			values = append(values, strconv.Itoa(i*i+1))
		}
		sum := "0"
		for i, x := range names {
			sum = "(" + sum + " * 3 + " + strconv.Itoa(i) + " * " + x + ")"
		}
		l, r, v := "("+strings.Join(left, ", ")+")", "("+strings.Join(right, ", ")+")", "("+strings.Join(values, ", ")+")"
		for i := range 3 {
			holds(t, "let _ = match "+strconv.Itoa(i)+", "+v+" with (1, "+l+" | 2, "+r+") -> print_int "+sum+" | _ -> print_int 0")
			holds(t, "let _ = match "+strconv.Itoa(i)+", "+v+" with ((1, "+l+" | 2, "+r+") | _, "+r+") when x0 = 1 -> print_int "+sum+" | _ -> print_int 0")
			holds(t, "let _ = match ("+strconv.Itoa(i)+", "+v+"), 5 with ((0, "+l+" | 1, "+r+"), 5) -> print_int "+sum+" | _ -> print_int 0")
		}
	}
}
