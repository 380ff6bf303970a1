package mem

import (
	"grapnel/api"
	"grapnel/arena"
	"grapnel/copier"
)

// tally is how often something was done.
type tally struct{ times int }

func (t *tally) add() { t.times++ }

// collect makes a collection and tells so to made: every collection is made here, so that none goes uncounted, whoever keeps the count.
func collect(a *arena.Arena, roots []api.Word, made func()) []api.Word {
	now := copier.Collect(a, roots)
	made()
	return now
}
