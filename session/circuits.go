package session

import (
	"plait/aig"
	"plait/api"
	"plait/blast"
	"plait/cnf"
	"plait/lift"
	"plait/rewrite"
	"plait/sat"
	"plait/term"
)

// circuits: of terms that were read, simplified.
type circuits struct {
	read    *term.Graph
	terms   *term.Graph // what the terms became
	graph   *aig.Graph
	blaster *blast.Blaster
	known   map[int]int // by numbers of Bools that were read: their literals
}

func newCircuits(read *term.Graph, most int) *circuits {
	c := &circuits{read: read, terms: term.New(api.MaxTerms), graph: aig.New(most), known: map[int]int{}}
	c.blaster = blast.New(c.terms, c.graph)
	return c
}

// literal tells that of a Bool.
func (c *circuits) literal(id int) (int, api.Errno) {
	if l, ok := c.known[id]; ok {
		return l, api.OK
	}
	simple, e := c.simplified(id)
	if e != api.OK {
		return 0, e
	}
	bits, e := c.blaster.Term(simple)
	if e != api.OK {
		return 0, e
	}
	c.known[id] = bits[0]
	return bits[0], api.OK
}

// simplified tells what a term becomes. That is found out in a graph for it alone, so that nothing is kept of what it was.
func (c *circuits) simplified(id int) (int, api.Errno) {
	own := term.New(api.MaxTerms)
	// There is room: it has no more nodes than were read.
	made, _ := again(c.read, own, id)
	simple, e := rewrite.Simplify(own, made)
	if e != api.OK {
		simple = made
	}
	return again(own, c.terms, simple)
}

// again makes a term of one graph in another one.
func again(from, to *term.Graph, id int) (int, api.Errno) {
	made := make([]int, id+1)
	for _, part := range from.Cone(id) {
		n, _ := from.Node(part)
		n.A, n.B, n.C = made[n.A], made[n.B], made[n.C]
		number, e := to.Make(n)
		if e != api.OK {
			return 0, e
		}
		made[part] = number
	}
	return made[id], api.OK
}

// model tells a value for each variable that was read, by the values of clause variables.
func (c *circuits) model(encoder *cnf.Encoder, solver *sat.Solver) []api.Named {
	var known []api.Named
	for _, name := range c.blaster.Names() {
		inputs, _ := c.blaster.Var(name)
		var bits []bool
		for _, l := range inputs {
			v, ok := encoder.Of(l >> 1)
			bits = append(bits, ok && solver.Value(v))
		}
		id, _ := c.terms.Var(name)
		n, _ := c.terms.Node(id)
		v, _ := lift.Value(n.Sort, bits)
		known = append(known, api.Named{Name: name, V: v})
	}
	return lift.Model(c.read, known)
}
