package show

import (
	"plait/api"
	"plait/term"
)

// meetings: of one walk through a term.
type meetings struct {
	graph *term.Graph
	// places: by a node's number, at how many of the term's operands it stands; the term itself stands at none.
	places [api.MaxTerms + 1]int
	ended  []int // nodes in the order in which the walk ended them
}

// walk goes on into an operand only where it is met first: so every node is gone into once.
func (m *meetings) walk(id int) {
	n, _ := m.graph.Node(id)
	operands := [...]int{n.A, n.B, n.C}
	for _, a := range operands[:term.Arity(n.Op)] {
		m.places[a]++
		if m.places[a] == 1 {
			m.walk(a)
		}
	}
	m.ended = append(m.ended, id)
}

// shared tells the nodes that are to be named, in the order of their names.
func (m *meetings) shared() []int {
	var ids []int
	for _, id := range m.ended {
		n, _ := m.graph.Node(id)
		if m.places[id] >= 2 && term.Arity(n.Op) > 0 {
			ids = append(ids, id)
		}
	}
	return ids
}

// freeAfter tells the next number whose word no variable of the term has; other variables of the graph don't count.
func (m *meetings) freeAfter(k int) int {
	for {
		k++
		if v, ok := m.graph.Var(letName(k)); !ok || m.places[v] == 0 {
			return k
		}
	}
}
