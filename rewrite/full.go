package rewrite

import "plait/api"

// A graph that is full may have no room for what a term becomes. Then the term is told as itself, without what the rules leave off it at no cost. One case they forbid: (not q), where q is told as another term and the graph has (not (not q)). Rule 5 asks for q there, and rule 3 forbids it. ErrTermMany is left then, or a spare node that was made ahead.

// told tells what a full graph tells for a term; 0, if nothing.
func (w *walk) told(id int) int {
	planned := w.known[id]
	if s := w.settle(planned); s > 0 {
		return s
	}
	// What becomes a constant must be one.
	if _, ok := w.value(planned); ok {
		return 0
	}
	b := w.base(id)
	if w.stays(b) {
		return b
	}
	s, _ := w.graph.Make(w.spare(b))
	return s
}

// secure makes a spare node for a term that may have none to be told as when the graph is full. It is asked ahead of making several nodes: behind the first one ErrTermMany is no answer any more, as a graph forgets nothing.
func (w *walk) secure(id int) {
	if b := w.base(id); w.isTurned(b) {
		w.graph.Make(w.spare(b))
	}
}

// base tells what the rules leave of a term if nothing is made: a part of it.
func (w *walk) base(id int) int {
	if part := w.alike(id); part > 0 {
		return w.base(part)
	}
	n := w.node(id)
	if within := w.node(n.A); turns(n.Op) && within.Op == n.Op {
		return w.base(within.A)
	}
	return id
}

// alike tells the operand that becomes what the node itself becomes; 0, if none does.
func (w *walk) alike(id int) int {
	n := w.node(id)
	if n.Op == api.OpIte {
		// Both may: then the one that is chosen counts.
		if chosen, ok := w.choice(api.Node{A: w.known[n.A], B: n.B, C: n.C}); ok {
			return chosen
		}
	}
	for _, part := range [...]int{n.A, n.B, n.C} {
		if w.known[part] == w.known[id] {
			return part
		}
	}
	return 0
}

// stays tells whether a full graph can tell a base as itself.
func (w *walk) stays(b int) bool {
	if !w.isTurned(b) {
		return true
	}
	within := w.node(b).A
	return w.told(within) == within
}

// turns tells of an operator whether it undoes itself.
func turns(op int) bool {
	return op == api.OpNot || op == api.OpBvNot || op == api.OpBvNeg
}

// turned is the node that turns another one, n, once more.
func turned(n api.Node, id int) api.Node {
	return api.Node{Op: n.Op, Sort: n.Sort, A: id}
}

// isTurned tells whether the graph has a node that turns this one once more.
func (w *walk) isTurned(b int) bool {
	n := w.node(b)
	return turns(n.Op) && w.find(turned(n, b)) > 0
}

// spare tells the node that can stand for b, which is turned once more in the graph, but can't stay. It turns b twice, if nothing turns that once more; else it is b and that together, which is no rule's business.
func (w *walk) spare(b int) api.Node {
	n := w.node(b)
	twice := turned(n, w.find(turned(n, b)))
	up := w.find(twice)
	if up == 0 || !w.isTurned(up) {
		return twice
	}
	both := api.Node{Op: api.OpBvAnd, Sort: n.Sort, A: b, B: up}
	if n.Sort == 0 {
		both.Op = api.OpAnd
	}
	return both
}
