package dd

// node: a variable, and the diagrams for it false and for it true. The zero one is none: its diagrams aren't unlike.
type node [3]int

// What stands where in a node.
const (
	variable = iota
	low
	high
)

// table: the nodes that there are, each once.
type table struct {
	most    int
	nodes   []node       // by their numbers, the zero one where one went
	numbers map[node]int // of all but 0 and 1
	spare   []int        // the numbers of those that went, the least one last
}

// newTable makes one that has just 0 and 1, whose variable comes behind all others.
func newTable(vars, most int) table {
	return table{most: most, nodes: []node{{vars, 0, 0}, {vars, 1, 1}}, numbers: map[node]int{}}
}

// isNode tells of a diagram whether it is one that has a node.
func isNode(f int) bool { return f > 1 }

// has tells whether a number is a diagram.
func (t *table) has(f int) bool {
	return f >= 0 && f < len(t.nodes) && (!isNode(f) || t.nodes[f] != node{})
}

// isFull tells whether no node can be made.
func (t *table) isFull() bool { return len(t.numbers) == t.most }

// add makes a node that there isn't, and tells its number.
func (t *table) add(n node) int {
	f := len(t.nodes)
	if last := len(t.spare) - 1; last >= 0 {
		f, t.spare = t.spare[last], t.spare[:last]
		t.nodes[f] = n
	} else {
		t.nodes = append(t.nodes, n)
	}
	t.numbers[n] = f
	return f
}

// collect lets all go that isn't reached from what is kept.
func (t *table) collect(kept []int) {
	w := t.walk()
	for _, f := range kept {
		w.visit(f)
	}
	t.spare = nil
	for f := len(t.nodes) - 1; isNode(f); f-- {
		if !w.met[f] {
			delete(t.numbers, t.nodes[f])
			t.nodes[f] = node{}
			t.spare = append(t.spare, f)
		}
	}
}

// walk: over what diagrams are made of.
type walk struct {
	table *table
	met   []bool // by numbers of nodes
	order []int  // the nodes that were met, each behind those that it is made of
}

func (t *table) walk() walk {
	return walk{table: t, met: make([]bool, len(t.nodes))}
}

// visit goes over all that a diagram is made of and that wasn't met before.
func (w *walk) visit(f int) {
	if !isNode(f) || w.met[f] {
		return
	}
	w.met[f] = true
	w.visit(w.table.nodes[f][low])
	w.visit(w.table.nodes[f][high])
	w.order = append(w.order, f)
}
