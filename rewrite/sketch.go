package rewrite

import (
	"plait/api"
	"plait/term"
)

// sketch: nodes beside a graph's own, which are made in the graph only when it has shown that the answer needs them: a graph forgets nothing.
type sketch struct {
	graph *term.Graph
	first int              // the number of the first sketched node; the graph's own are below it
	nodes []api.Node       // sketched
	ids   map[api.Node]int // of the graph's nodes and the sketched ones: so none has two numbers; nil until it is asked
	made  map[int]int      // by sketched nodes' numbers: those that they have in the graph, 0 where it refused
}

func newSketch(g *term.Graph) *sketch {
	return &sketch{graph: g, first: g.Len() + 1, made: map[int]int{}}
}

func (s *sketch) node(id int) api.Node {
	if id >= s.first {
		return s.nodes[id-s.first]
	}
	n, _ := s.graph.Node(id)
	return n
}

// find tells the number of the node with just these parts; 0, if there was none in the graph and none is sketched.
func (s *sketch) find(n api.Node) int {
	// Many a term is simplified already: then nobody asks, and the graph isn't gone through.
	if s.ids == nil {
		s.ids = make(map[api.Node]int, s.first)
		for id := 1; id < s.first; id++ {
			s.ids[s.node(id)] = id
		}
	}
	return s.ids[n]
}

// lay tells the number of the node with just these parts, sketched if it must be.
func (s *sketch) lay(n api.Node) int {
	if id := s.find(n); id > 0 {
		return id
	}
	id := s.first + len(s.nodes)
	s.nodes = append(s.nodes, n)
	s.ids[n] = id
	return id
}

// several tells whether two nodes or more must be made for one.
func (s *sketch) several(id int) bool {
	n := s.node(id)
	return id >= s.first && max(n.A, n.B, n.C) >= s.first
}

// settle makes a node and all that it is made of in the graph, and tells its number there; 0, if the graph refuses one: then it is full.
func (s *sketch) settle(id int) int {
	if id < s.first {
		return id
	}
	if made, ok := s.made[id]; ok {
		return made
	}
	n := s.node(id)
	n.A, n.B, n.C = s.settle(n.A), s.settle(n.B), s.settle(n.C)
	// An operand that was refused is 0, and then Make refuses this node, too.
	made, _ := s.graph.Make(n)
	s.made[id] = made
	return made
}
