package session

import (
	"plait/api"
	"plait/cnf"
	"plait/sat"
	"plait/store"
	"plait/term"
)

// byClauses: EngineA. A frame has a clause literal: while that is assumed, all that is asserted in the frame is true. What is asserted in the first frame is true whatever is assumed, since that is never popped.
type byClauses struct {
	circuits *circuits
	encoder  *cnf.Encoder
	asked    []int // what the encoder was asked for, in order: literals of the graph, or aFresh
	solver   *sat.Solver
	words    int          // how many the solver has room for
	known    *store.Store // all clauses that were emitted or learned, in that order
	learned  []bool       // by their numbers
	frames   map[int]int  // by frames' numbers: their clause literals
	proof    *proof
}

// aFresh: in the place of a literal of the graph: a variable of no node was asked for.
const aFresh = -1

func newByClauses(terms *term.Graph, l api.Limits) *byClauses {
	words := limit(l.Words, api.MaxArena)
	c := &byClauses{
		circuits: newCircuits(terms, limit(l.Graph, api.MaxGraph)),
		solver:   sat.New(words, limit(l.Conflicts, api.MaxConflicts)),
		words:    words,
		known:    store.New(api.MaxArena),
		frames:   map[int]int{},
		proof:    newProof(),
	}
	c.encoder = cnf.New(c.circuits.graph, 1)
	return c
}

func (c *byClauses) check(q question) report {
	t := newTurn(c)
	defer t.end()
	if e := t.tell(q); e != api.OK {
		return report{refused: e}
	}
	t.emit(q)
	return c.solve(t)
}

// solve asks the solver under what was told.
func (c *byClauses) solve(t *turn) report {
	verdict, e := c.solver.Solve(append(t.frames[1:len(t.frames):len(t.frames)], t.assume...))
	r := report{verdict: verdict, refused: e, learned: c.solver.Learned(), frames: t.frames}
	for _, clause := range r.learned {
		c.know(clause, true)
	}
	switch verdict {
	case api.Sat:
		r.model = c.circuits.model(c.encoder, c.solver)
	case api.Unsat:
		r.core = places(c.solver.Core(), t.assume)
	}
	return r
}

// know keeps a clause that was emitted, or learned.
func (c *byClauses) know(clause []int, learned bool) {
	c.known.Add(clause)
	c.learned = append(c.learned, learned)
}

// places tells where in a list those of a core stand, each at its first place.
func places(core, l []int) []int {
	wanted := map[int]struct{}{}
	for _, x := range core {
		wanted[x] = struct{}{}
	}
	var at []int
	for i, x := range l {
		if _, ok := wanted[x]; ok {
			at = append(at, i)
			delete(wanted, x)
		}
	}
	return at
}

func (c *byClauses) clauses(r report) [][]int {
	if r.verdict == api.Unknown && r.refused != api.ErrSatConflicts {
		return nil
	}
	all := c.solver.Clauses()
	for _, f := range r.frames {
		all = append(all, []int{f})
	}
	return all
}

func (c *byClauses) trace(r report) ([]byte, api.Errno) {
	for ref := c.proof.len(); ref < c.known.Len(); ref++ {
		clause, _ := c.known.Clause(ref)
		c.proof.take(clause, c.learned[ref])
	}
	b, e := c.proof.bytes(r.frames)
	if e != api.OK {
		return nil, api.ErrSessionTrace
	}
	return b, api.OK
}
