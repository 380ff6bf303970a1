package simp_test

import (
	"testing"

	"grapnel/api"
	"grapnel/simp"
)

// The chapter's examples.
func TestExamples(t *testing.T) {
	becomes(t, let(1, num(2), add(at(1), num(3))), num(5))
	a, b := say(num(1)), say(num(2))
	becomes(t, branch(op(api.OpLess, num(1), num(2)), a, b), a)
	stays(t, op(api.OpDiv, num(1), num(0)))
}

// everywhere tells bodies in which a variable stands once, often, within functions, and by itself.
func everywhere(v int) []api.Lam {
	x, n := at(v), read()
	self := app(at(50), n)
	return []api.Lam{
		x, say(x), add(x, x), block(0, x, n, x), fun(60, 1, x), fun(60, 2, add(at(61), fun(62, 1, add(x, at(60))))), app(fun(60, 1, add(at(60), x)), x), rec(50, fun(60, 1, branch(at(60), x, self)), self), rec(50, fun(60, 1, self), x),
		let(60, say(x), add(at(60), x)), branch(x, x, x), choose([]int64{0, 3}, []int64{1}, x, x, say(n), block(1, x), x), seq(say(x), x), while(op(api.OpLess, x, num(0)), x), loop(1, 60, x, add(x, num(1)), add(x, at(60))), loop(0, 60, n, n, x),
		try(x, 60, at(60)), try(raise(x), 60, x), raise(x), catch(1, nil, exit(1), x), catch(1, []int64{60, 61}, exit(1, x, n), add(x, at(61))), of(api.LField, 0, x), of(api.LSet, 0, block(0, n), x), of(api.LAt, 0, block(0, n), x), of(api.LPut, 0, block(0, n), num(0), x), op(api.OpRef, x), call(api.BCompare, x, n), call(api.BHash, x),
	}
}

// P15.1: an LLet of a number, or of another variable, is spare: these stand where the variable stood, wherever that was.
func TestLetsOfNumbersAndVariables(t *testing.T) {
	for i, c := range everywhere(1) {
		for _, is := range []api.Lam{num(0), num(7), num(-1), num(mostInt), num(leastInt)} {
			q, _ := simp.Of(program(everywhereIs(i, is)))
			becomes(t, let(1, is, c), q.Body, "4", "5")
			if kinds(q.Body, api.LVar) >= kinds(c, api.LVar) {
				t.Errorf("%s: the variable stands in %s", shown(c), shown(q.Body))
			}
		}
		becomes(t, let(2, read(), let(1, at(2), c)), let(2, read(), everywhereIs(i, at(2))), "4", "5", "6")
		becomes(t, app(fun(2, 2, let(1, at(3), c)), read(), read()), app(fun(2, 2, everywhereIs(i, at(3))), read(), read()), "4", "5", "6")
		becomes(t, loop(1, 2, num(0), num(2), let(1, at(2), c)), loop(1, 2, num(0), num(2), everywhereIs(i, at(2))), "4", "5", "6")
		becomes(t, try(raise(num(1)), 2, let(1, at(2), c)), try(raise(num(1)), 2, everywhereIs(i, at(2))), "4", "5", "6")
		becomes(t, catch(9, []int64{2}, exit(9, read()), let(1, at(2), c)), catch(9, []int64{2}, exit(9, read()), everywhereIs(i, at(2))), "4", "5", "6")
		becomes(t, rec(2, fun(3, 1, at(3)), let(1, at(2), c)), rec(2, fun(3, 1, at(3)), everywhereIs(i, at(2))), "4", "5", "6")
	}
}

// everywhereIs tells one of these bodies, with something in the variable's place.
func everywhereIs(i int, is api.Lam) api.Lam {
	return replaced(everywhere(1)[i], 1, is)
}

func replaced(c api.Lam, v int, is api.Lam) api.Lam {
	if c.Kind == api.LVar && c.V == v {
		return is
	}
	l := c.L
	c.L = nil
	for _, p := range l {
		c.L = append(c.L, replaced(p, v, is))
	}
	return c
}

// P15.1: an LLet of a text or a function is spare only where the variable stands nowhere; the text isn't laid twice then, nor later.
func TestLetsOfTextsAndFunctions(t *testing.T) {
	for _, is := range []api.Lam{text("ab"), text(""), fun(20, 1, at(20)), fun(20, 2, say(at(21)))} {
		for _, c := range everywhere(1) {
			stays(t, let(1, is, c), "4", "5")
		}
		for _, c := range []api.Lam{num(1), say(num(1)), text("c"), fun(60, 1, at(60)), app(fun(60, 1, at(60)), num(1)), rec(50, fun(60, 1, app(at(50), at(60))), num(2))} {
			becomes(t, let(1, is, c), c)
			becomes(t, let(2, read(), let(1, is, add(at(2), c))), let(2, read(), add(at(2), c)), "4")
		}
		becomes(t, seq(let(1, is, say(num(1))), let(1, is, at(1))), seq(say(num(1)), let(1, is, at(1))))
		becomes(t, seq(let(1, is, app(at(1), num(1))), let(1, is, num(1))), seq(let(1, is, app(at(1), num(1))), num(1)))
	}
	// the variable stands where it is bound anew, but not where it is asked for
	becomes(t, seq(say(let(1, num(2), at(1))), let(1, text("a"), num(3))), seq(say(num(2)), num(3)))
}

// P15.1: an LLet of what does something, or may, isn't spare, whether its variable stands or not.
func TestLetsOfOthers(t *testing.T) {
	n := read()
	for _, is := range []api.Lam{
		n, say(num(1)), block(0), block(1, num(1)), app(fun(20, 1, at(20)), num(1)), raise(num(1)), op(api.OpDiv, num(1), num(0)), op(api.OpEq, num(1), num(1)), op(api.OpRef, num(1)), branch(n, num(1), num(2)), choose(nil, nil, n, num(1)), seq(say(num(1)), num(2)),
		let(20, n, num(1)), let(20, say(num(1)), fun(21, 1, at(20))), rec(20, fun(21, 1, at(21)), num(1)), rec(20, fun(21, 1, at(21)), at(20)), catch(5, nil, exit(5), num(1)), while(n, num(1)), loop(1, 20, num(1), num(2), num(3)), try(num(1), 20, num(2)), of(api.LField, 0, block(0, num(1))), of(api.LSet, 0, block(0, num(1)), num(2)), of(api.LAt, 0, block(0, num(1)), num(0)), of(api.LPut, 0, block(0, num(1)), num(0), num(5)),
	} {
		for _, c := range append(everywhere(1), num(3), text("a"), fun(60, 1, at(60))) {
			stays(t, let(1, is, c), "0", "5", "6")
		}
	}
}

// P15.1: LLets of variables of LLets.
func TestLetsOfLets(t *testing.T) {
	becomes(t, let(1, num(2), let(2, at(1), let(3, at(2), add(at(3), add(at(2), at(1)))))), num(6))
	becomes(t, let(1, read(), let(2, at(1), let(3, at(2), block(0, at(3), at(2), at(1))))), let(1, read(), block(0, at(1), at(1), at(1))), "4")
	becomes(t, let(1, let(2, num(3), at(2)), add(at(1), at(1))), num(6))
	becomes(t, let(1, read(), let(2, let(3, at(1), at(3)), say(at(2)))), let(1, read(), say(at(1))), "4")
	becomes(t, let(1, let(2, read(), at(2)), say(at(1))), let(1, let(2, read(), at(2)), say(at(1))), "4")
	becomes(t, let(1, text("a"), let(2, at(1), let(3, at(2), call(api.BPrint, at(3))))), let(1, text("a"), call(api.BPrint, at(1))))
	becomes(t, let(1, text("a"), let(2, at(1), let(3, at(2), num(5)))), num(5))
	becomes(t, let(1, text("a"), let(2, at(1), let(3, text("b"), call(api.BPrint, at(3))))), let(3, text("b"), call(api.BPrint, at(3))))
	becomes(t, let(1, read(), let(2, fun(9, 1, at(1)), let(3, at(2), num(1)))), let(1, read(), num(1)), "4")
	// one name for two things that differ
	becomes(t, block(0, let(1, num(2), at(1)), let(1, num(3), at(1)), let(1, read(), at(1)), let(1, text("a"), at(1)), let(1, num(4), at(1))), block(0, num(2), num(3), let(1, read(), at(1)), let(1, text("a"), at(1)), num(4)), "4")
	becomes(t, let(1, let(2, num(3), say(at(2))), let(2, at(1), add(at(2), at(2)))), let(1, say(num(3)), add(at(1), at(1))))
	becomes(t, seq(say(let(1, num(5), at(1))), app(fun(1, 1, say(at(1))), num(6)), rec(1, fun(2, 1, at(2)), say(app(at(1), num(7)))), loop(1, 1, num(8), num(9), say(at(1))), try(raise(num(3)), 1, say(at(1))), catch(1, []int64{1}, exit(1, num(4)), say(at(1)))), seq(say(num(5)), app(fun(1, 1, say(at(1))), num(6)), rec(1, fun(2, 1, at(2)), say(app(at(1), num(7)))), loop(1, 1, num(8), num(9), say(at(1))), try(raise(num(3)), 1, say(at(1))), catch(1, []int64{1}, exit(1, num(4)), say(at(1)))))
}

// P15.1: a variable that stands only in what goes doesn't stand.
func TestVariablesInWhatGoes(t *testing.T) {
	x, n := at(1), read()
	for _, is := range []api.Lam{text("a"), fun(20, 1, at(20))} {
		for _, c := range [][2]api.Lam{
			{seq(x, num(2)), num(2)}, {seq(x, x, x, say(num(2))), say(num(2))}, {seq(fun(30, 1, x), num(2)), num(2)}, {seq(fun(30, 1, block(0, x, fun(31, 1, add(x, at(30))))), num(2)), num(2)}, {let(2, x, num(3)), num(3)}, {let(2, x, let(3, at(2), num(4))), num(4)}, {let(2, fun(30, 1, x), n), n}, {let(2, fun(30, 1, x), let(3, fun(30, 1, at(2)), let(4, fun(30, 1, app(at(3), at(2))), n))), n},
			{branch(num(0), x, n), n}, {branch(num(1), n, say(x)), n}, {branch(add(num(1), num(-1)), call(api.BPrint, x), n), n}, {choose([]int64{2, 4}, []int64{0}, num(4), x, n, x, x), n}, {choose([]int64{2, 4}, nil, num(3), x, x, n), n}, {catch(5, nil, n, x), n}, {catch(5, []int64{6}, branch(num(1), n, exit(5, x)), add(x, at(6))), n}, {catch(5, nil, seq(fun(30, 1, x), n), seq(x, num(1))), n},
			{let(2, seq(x, num(3)), add(at(2), num(4))), num(7)}, {op(api.OpNeg, seq(x, num(3))), num(-3)}, {fun(30, 1, seq(x, at(30))), fun(30, 1, at(30))}, {let(2, num(0), branch(at(2), x, n)), n},
		} {
			becomes(t, let(1, is, c[0]), c[1], "4", "5")
			becomes(t, let(1, is, block(0, c[0], x)), let(1, is, block(0, c[1], x)), "4", "5")
			becomes(t, let(1, is, block(0, x, c[0])), let(1, is, block(0, x, c[1])), "4", "5")
		}
		becomes(t, let(1, is, let(2, fun(30, 1, seq(x, x)), app(at(2), n))), let(1, is, let(2, fun(30, 1, x), app(at(2), n))), "4", "5")
	}
	// all of them go, one because of the other
	c := call(api.BPrint, text("z"))
	for v := range 30 {
		c = let(40-v, fun(100, 1, app(at(39-v), at(100))), c)
	}
	becomes(t, let(10, text("a"), c), call(api.BPrint, text("z")))
}
