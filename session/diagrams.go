package session

import (
	"plait/api"
	"plait/ddbits"
	"plait/lift"
	"plait/term"
)

// mostBits: how many bits the declared names may have together.
const mostBits = 4096

// byDiagrams: EngineB. It draws each question anew, so that none hangs on one ahead of it.
type byDiagrams struct {
	terms *term.Graph
	nodes int
}

func (d *byDiagrams) check(q question) report {
	b, all, e := d.draw(q)
	if e != api.OK {
		return report{refused: e}
	}
	way, some, _ := b.Manager().Some(all)
	if !some {
		return report{verdict: api.Unsat, core: numbersUpTo(len(q.assume))}
	}
	return report{verdict: api.Sat, model: lift.Model(d.terms, b.Values(way))}
}

func (d *byDiagrams) clauses(report) [][]int { return nil }

func (d *byDiagrams) trace(report) ([]byte, api.Errno) { return nil, api.ErrSessionTrace }

// count tells under how many assignments a question's terms are all true.
func (d *byDiagrams) count(q question) (string, api.Errno) {
	b, all, e := d.draw(q)
	if e != api.OK {
		return "", e
	}
	return b.Manager().Count(all)
}

// draw tells the diagram of all that is asked to be true, and where it lies.
func (d *byDiagrams) draw(q question) (*ddbits.Builder, int, api.Errno) {
	vars := d.terms.Vars()
	if d.bitsOf(vars) > mostBits {
		return nil, 0, api.ErrDdVar
	}
	b := ddbits.New(d.terms, vars, d.nodes)
	all := 1
	for _, id := range q.terms() {
		// Nothing that comes behind makes it true again.
		if all == 0 {
			break
		}
		both, e := join(b, all, id)
		if e != api.OK {
			return nil, 0, e
		}
		all = both
	}
	return b, all, api.OK
}

// bitsOf tells how many bits variables have together.
func (d *byDiagrams) bitsOf(vars []int) int {
	bits := 0
	for _, id := range vars {
		n, _ := d.terms.Node(id)
		bits += max(n.Sort, 1)
	}
	return bits
}

// join tells the diagram of a diagram and a term, pinned in the place of the former.
func join(b *ddbits.Builder, all, id int) (int, api.Errno) {
	bits, e := b.Term(id)
	if e != api.OK {
		return 0, e
	}
	m := b.Manager()
	both, e := m.And(all, bits[0])
	if e != api.OK {
		return 0, e
	}
	m.Pin(both)
	m.Unpin(all)
	m.Unpin(bits[0])
	return both, api.OK
}

// numbersUpTo tells 0, 1 .. up to n, without n.
func numbersUpTo(n int) []int {
	var l []int
	for i := range n {
		l = append(l, i)
	}
	return l
}
