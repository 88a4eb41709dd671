package session

import (
	"plait/api"
	"plait/cnf"
	"plait/store"
)

// turn: what one check tells the encoder and wants to emit. All of it is done, or nothing.
type turn struct {
	engine *byClauses
	asked  []int        // what the encoder was asked for
	fresh  *store.Store // the clauses that are to be emitted; it has as much room as the solver has left
	frames []int        // the frames' clause literals
	assume []int        // the assumptions' ones
	isDone bool
}

func newTurn(c *byClauses) *turn {
	return &turn{engine: c, fresh: store.New(c.words - c.solver.Words())}
}

// end takes back what the encoder was told, unless all was emitted: an encoder that is told the same has the same variables, and tells the clauses again.
func (t *turn) end() {
	if t.isDone {
		return
	}
	c := t.engine
	c.encoder = cnf.New(c.circuits.graph, 1)
	for _, l := range c.asked {
		if l == aFresh {
			c.encoder.Fresh()
		} else {
			c.encoder.Root(l)
		}
	}
}

// tell finds the clause literals of a question, and the clauses that are new.
func (t *turn) tell(q question) api.Errno {
	for _, f := range q.frames {
		if e := t.frame(f); e != api.OK {
			return e
		}
	}
	for _, id := range q.assume {
		r, e := t.root(id)
		if e != api.OK {
			return e
		}
		t.assume = append(t.assume, r)
	}
	return api.OK
}

// frame tells a frame: each of its terms is true, while its literal is.
func (t *turn) frame(f frame) api.Errno {
	guard, e := t.guard(f)
	if e != api.OK {
		return e
	}
	t.frames = append(t.frames, guard)
	for _, id := range f.terms {
		r, e := t.root(id)
		if e != api.OK {
			return e
		}
		clause := []int{-guard, r}
		if isFirst := len(t.frames) == 1; isFirst {
			clause = clause[1:]
		}
		if e := t.add(clause); e != api.OK {
			return e
		}
	}
	return api.OK
}

// guard tells a frame's literal.
func (t *turn) guard(f frame) (int, api.Errno) {
	if l, ok := t.engine.frames[f.number]; ok {
		return l, api.OK
	}
	t.asked = append(t.asked, aFresh)
	return t.engine.encoder.Fresh()
}

// root tells a Bool's clause literal.
func (t *turn) root(id int) (int, api.Errno) {
	l, e := t.engine.circuits.literal(id)
	if e != api.OK {
		return 0, e
	}
	had := t.engine.encoder.Vars()
	r, clauses, e := t.engine.encoder.Root(l)
	if e != api.OK {
		return 0, e
	}
	if len(clauses) > 0 || t.engine.encoder.Vars() > had {
		t.asked = append(t.asked, l)
	}
	for _, clause := range clauses {
		if e := t.add(clause); e != api.OK {
			return 0, e
		}
	}
	return r, api.OK
}

// add lets a clause be emitted, unless it was emitted, or learned, before: it is so already then.
func (t *turn) add(clause []int) api.Errno {
	if t.engine.known.Has(clause) || t.fresh.Has(clause) {
		return api.OK
	}
	_, e := t.fresh.Add(clause)
	return e
}

// emit does all that was told.
func (t *turn) emit(q question) {
	c := t.engine
	c.asked = append(c.asked, t.asked...)
	for i, f := range q.frames {
		c.frames[f.number] = t.frames[i]
	}
	for ref := range t.fresh.Len() {
		clause, _ := t.fresh.Clause(ref)
		c.solver.Add(clause)
		c.know(clause, false)
	}
	t.isDone = true
}
