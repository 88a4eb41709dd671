package rewrite

import (
	"plait/api"
	"plait/bv"
	"plait/eval"
	"plait/term"
)

// walk simplifies terms in one sketch, each node once.
type walk struct {
	*sketch
	known map[int]int // by numbers: what was simplified
}

func newWalk(s *sketch) *walk {
	// 0 stands for an operand that a node hasn't.
	return &walk{sketch: s, known: map[int]int{0: 0}}
}

// simple tells the number of the simplified term.
func (w *walk) simple(id int) int {
	if s, ok := w.known[id]; ok {
		return s
	}
	n := w.node(id)
	s := id
	if term.Arity(n.Op) > 0 {
		n.A, n.B, n.C = w.simple(n.A), w.simple(n.B), w.simple(n.C)
		s = w.become(id, n)
	}
	w.known[id] = s
	return s
}

// become tells what a node is, now that its operands are simplified: n.
func (w *walk) become(id int, n api.Node) int {
	if s, ok := w.reduced(n); ok {
		return s
	}
	if n == w.node(id) {
		return id
	}
	return w.lay(n)
}

// build tells the number of the simplified term with n's operator and operands, which are simplified.
func (w *walk) build(n api.Node) int {
	if s, ok := w.reduced(n); ok {
		return s
	}
	return w.lay(n)
}

// reduced tells whether a node whose operands are simplified is another one by a rule, and which.
func (w *walk) reduced(n api.Node) (int, bool) {
	if v, ok := w.folded(n); ok {
		return w.constant(v), true
	}
	return w.rule(n)
}

// folded tells the value of a node whose operands are all constants.
func (w *walk) folded(n api.Node) (api.Bits, bool) {
	operands := [...]int{n.A, n.B, n.C}
	var values []api.Bits
	for _, id := range operands[:term.Arity(n.Op)] {
		v, ok := w.value(id)
		if !ok {
			return api.Bits{}, false
		}
		values = append(values, v)
	}
	v, e := eval.Apply(n.Op, n.P, n.Q, values)
	return v, e == api.OK
}

// value tells a constant's value, and whether it is one.
func (w *walk) value(id int) (api.Bits, bool) {
	n := w.node(id)
	return n.V, n.Op == api.OpConst
}

func (w *walk) constant(v api.Bits) int {
	return w.lay(api.Node{Op: api.OpConst, Sort: v.W, V: v})
}

// zeros is the value of a sort without a bit that is 1: of Bool false.
func zeros(sort int) api.Bits { return api.Bits{W: sort} }

// ones is the value of a sort whose bits are all 1: of Bool true.
func ones(sort int) api.Bits {
	if sort == 0 {
		return bv.Bool(true)
	}
	v, _ := bv.One(api.OpBvNot, zeros(sort))
	return v
}
