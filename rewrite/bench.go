package rewrite

import (
	"plait/api"
	"plait/term"
)

// bench: where a term is simplified.
type bench interface {
	node(id int) api.Node
	// lay tells the number of the node with just these parts; 0, if it can't be had.
	lay(n api.Node) int
}

// sketch: nodes beside a graph's own, which are made in the graph only when it has shown that the answer needs them: a graph forgets nothing.
type sketch struct {
	graph *term.Graph
	first int              // the number of the first sketched node; the graph's own are below it
	nodes []api.Node       // sketched
	ids   map[api.Node]int // of the sketched nodes and of the term that is simplified: so no node has two numbers
	made  map[int]int      // by sketched nodes' numbers: those that they have in the graph, 0 where it refused
}

func newSketch(g *term.Graph, id int) *sketch {
	s := &sketch{graph: g, first: g.Len() + 1, ids: map[api.Node]int{}, made: map[int]int{}}
	for _, part := range g.Cone(id) {
		s.ids[s.node(part)] = part
	}
	return s
}

func (s *sketch) node(id int) api.Node {
	if id >= s.first {
		return s.nodes[id-s.first]
	}
	n, _ := s.graph.Node(id)
	return n
}

func (s *sketch) lay(n api.Node) int {
	if id, ok := s.ids[n]; ok {
		return id
	}
	id := s.first + len(s.nodes)
	s.nodes = append(s.nodes, n)
	s.ids[n] = id
	return id
}

// settle makes a node and all that it is made of in the graph, and tells its number there; 0, if the graph refuses one.
func (s *sketch) settle(id int) int {
	if id < s.first {
		return id
	}
	if made, ok := s.made[id]; ok {
		return made
	}
	n := s.node(id)
	n.A, n.B, n.C = s.settle(n.A), s.settle(n.B), s.settle(n.C)
	// An operand that was refused is 0, and then Make refuses this node, too.
	made, _ := s.graph.Make(n)
	s.made[id] = made
	return made
}

// full: a graph that has refused a node: Make adds no more to it, but tells what there is.
type full struct {
	graph *term.Graph
}

func (f full) node(id int) api.Node {
	n, _ := f.graph.Node(id)
	return n
}

func (f full) lay(n api.Node) int {
	id, _ := f.graph.Make(n)
	return id
}
