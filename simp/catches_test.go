package simp_test

import (
	"testing"

	"grapnel/api"
)

// P15.1: an LCatch to which no LExit leads is its first part.
func TestCatchesWithoutExits(t *testing.T) {
	n, b := read(), say(num(9))
	for _, a := range []api.Lam{num(1), n, say(n), fun(20, 1, at(20)), raise(num(1)), let(20, n, at(20)), branch(n, num(1), num(2)), block(0, n), while(num(0), n)} {
		becomes(t, catch(5, nil, a, b), a, "4", "5")
		becomes(t, catch(0, []int64{6}, a, at(6)), a, "4", "5")
		becomes(t, catch(1<<20, []int64{6, 7, 1 << 20}, a, block(0, at(6), at(1<<20))), a, "4", "5")
		becomes(t, catch(5, nil, catch(6, nil, catch(7, nil, a, b), b), b), a, "4", "5")
		becomes(t, catch(5, nil, a, catch(5, nil, exit(5), b)), a, "4", "5")
		becomes(t, catch(5, nil, catch(6, nil, a, exit(5)), b), a, "4", "5")
		becomes(t, catch(5, nil, seq(say(num(1)), a), b), seq(say(num(1)), a), "4", "5")
	}
}

// P15.1: one to which an LExit leads stays, wherever in its first part that is.
func TestCatchesWithExits(t *testing.T) {
	n, out := read(), exit(5)
	for _, a := range []api.Lam{
		out, say(out), add(out, n), add(n, out), branch(n, out, num(1)), branch(n, num(1), out), branch(out, n, n), seq(n, out), of(api.LSeq, 0, out, n), choose([]int64{4}, nil, n, out, n), choose([]int64{4}, []int64{1}, n, n, n, out), block(0, n, out, n), let(20, out, n), let(20, n, out), rec(20, fun(21, 1, at(21)), out), app(fun(21, 1, at(21)), out), app(out, n),
		while(out, n), while(n, out), loop(1, 20, out, n, n), loop(1, 20, n, out, n), loop(1, 20, n, n, out), try(n, 20, out), raise(out), of(api.LField, 0, out), of(api.LPut, 0, n, n, out), catch(6, nil, branch(n, exit(6), out), n), catch(6, nil, exit(6), out), catch(6, []int64{20}, exit(6, out), n), op(api.OpNeg, out), op(api.OpDiv, num(1), out), op(api.OpEq, num(1), out),
	} {
		for _, line := range []string{"4", "0"} {
			stays(t, catch(5, nil, a, say(num(9))), line, "0", "5")
			stays(t, say(catch(5, nil, seq(n, a), num(9))), "1", line, "0", "5")
		}
	}
	stays(t, catch(5, []int64{6}, exit(5, n), say(at(6))), "4")
	stays(t, catch(5, []int64{6, 7}, seq(n, exit(5, n, num(2))), say(at(7))), "4", "5")
	stays(t, catch(5, []int64{6, 7}, branch(n, exit(5, n, num(2)), exit(5, num(3), n)), block(0, at(6), at(7))), "4", "5")
	becomes(t, catch(5, []int64{6}, exit(5, add(num(1), num(2))), let(1, at(6), say(at(1)))), catch(5, []int64{6}, exit(5, num(3)), say(at(6))))
}

// P15.1: an LExit leads to the LCatch of its own function, in whose first part it stands: to no other one of that number.
func TestWhereExitsLead(t *testing.T) {
	n, b := read(), say(num(9))
	own := catch(5, nil, exit(5), num(3))
	// in a function's body, to the LCatch that is there
	becomes(t, catch(5, nil, fun(20, 1, own), b), fun(20, 1, own))
	becomes(t, catch(5, nil, app(fun(20, 1, own), n), b), app(fun(20, 1, own), n), "4")
	becomes(t, catch(5, nil, rec(20, fun(21, 1, own), app(at(20), n)), b), rec(20, fun(21, 1, own), app(at(20), n)), "4")
	stays(t, catch(5, nil, app(fun(20, 1, own), exit(5)), b))
	stays(t, catch(5, nil, block(0, exit(5), fun(20, 1, own)), b))
	stays(t, catch(5, nil, block(0, fun(20, 1, own), exit(5)), b))
	becomes(t, catch(5, nil, block(0, exit(5), fun(20, 1, catch(5, nil, num(2), num(3)))), b), catch(5, nil, block(0, exit(5), fun(20, 1, num(2))), b))
	becomes(t, catch(5, nil, block(0, fun(20, 1, catch(5, nil, num(2), num(3))), exit(5)), b), catch(5, nil, block(0, fun(20, 1, num(2)), exit(5)), b))
	becomes(t, catch(5, nil, block(0, exit(5), fun(20, 1, catch(5, nil, fun(21, 1, own), num(3)))), b), catch(5, nil, block(0, exit(5), fun(20, 1, fun(21, 1, own))), b))
	// in the second part, to one around, or to one that is there
	becomes(t, catch(5, nil, n, own), n, "4")
	stays(t, catch(5, nil, branch(n, exit(5), num(1)), own), "4")
	stays(t, catch(5, nil, branch(n, exit(5), num(1)), own), "0")
	becomes(t, catch(5, nil, branch(n, exit(5), num(1)), catch(5, nil, num(3), b)), catch(5, nil, branch(n, exit(5), num(1)), num(3)), "4")
	stays(t, catch(5, nil, catch(6, nil, branch(n, exit(6), num(1)), exit(5)), b), "4")
}

// P15.1: of LCatches side by side that have one number each is asked about by itself.
func TestCatchesSideBySide(t *testing.T) {
	n, b := read(), say(num(9))
	own := catch(5, nil, exit(5), num(3))
	becomes(t, block(0, own, catch(5, nil, n, b), own), block(0, own, n, own), "4")
	becomes(t, block(0, catch(5, nil, n, b), own, catch(5, nil, n, b)), block(0, n, own, n), "4", "5")
	becomes(t, catch(4, nil, block(0, own, catch(5, nil, exit(4), b)), b), catch(4, nil, block(0, own, exit(4)), b))
}

// P15.1: an LExit in what goes leads nowhere any more.
func TestExitsInWhatGoes(t *testing.T) {
	n, b, out := read(), say(num(9)), exit(5)
	for _, a := range [][2]api.Lam{
		{branch(num(1), n, out), n}, {branch(num(0), out, n), n}, {choose([]int64{4}, []int64{1}, num(4), n, out, out), n}, {choose([]int64{4}, nil, num(3), out, n), n}, {catch(6, nil, n, out), n}, {catch(6, nil, branch(num(1), n, out), exit(5)), n}, {seq(num(1), branch(add(num(1), num(-1)), seq(say(num(1)), out), n)), n}, {let(20, num(0), branch(at(20), out, n)), n}, {add(branch(num(0), out, num(1)), num(2)), num(3)}, {catch(6, nil, catch(7, nil, n, seq(b, out)), branch(n, out, exit(5))), n},
		{seq(fun(20, 1, catch(5, nil, out, b)), n), n}, {let(20, fun(21, 1, catch(5, nil, out, b)), n), n},
	} {
		becomes(t, catch(5, nil, a[0], b), a[1], "4")
		becomes(t, catch(5, nil, block(0, a[0], branch(n, out, num(1))), b), catch(5, nil, block(0, a[1], branch(n, out, num(1))), b), "0", "4")
		becomes(t, catch(5, nil, block(0, branch(n, out, num(1)), a[0]), b), catch(5, nil, block(0, branch(n, out, num(1)), a[1]), b), "0", "4")
	}
	becomes(t, catch(5, nil, branch(num(1), out, n), b), catch(5, nil, out, b))
	becomes(t, catch(5, nil, seq(fun(20, 1, num(3)), out), b), catch(5, nil, out, b))
	becomes(t, catch(5, nil, catch(6, nil, out, n), b), catch(5, nil, out, b))
}
