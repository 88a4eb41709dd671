package ddbits

import (
	"cmp"
	"slices"

	"plait/api"
	"plait/bv"
	"plait/eval"
)

// run: the making of one term's bits. A bit of a part is made when it is first taken, and held until it is taken for the last time: how often it will be taken is counted ahead.
type run struct {
	*Builder
	root    int
	parts   map[int]*part // by nodes' numbers
	refused api.Errno     // the first error; behind it no diagram is made any more, but all is taken and released as ever
}

// newRun asks for the numbers of all that a term is made of, rising.
func newRun(b *Builder, cone []int) *run {
	r := &run{Builder: b, root: cone[len(cone)-1], parts: map[int]*part{0: {known: true}}}
	for _, id := range cone {
		r.parts[id] = r.newPart(id)
	}
	for i := range r.width(r.root) {
		r.want(wire{r.root, i})
	}
	// Whatever takes a part's bits has a greater number: a part's own takes are all counted when it is met.
	for _, id := range slices.Backward(cone) {
		r.wantOperands(r.parts[id])
	}
	return r
}

// newPart asks for those of the operands.
func (r *run) newPart(id int) *part {
	n, _ := r.graph.Node(id)
	p := &part{node: n, known: n.Op != api.OpVar, value: n.V}
	var values []api.Bits
	for _, k := range operands(n) {
		p.known = p.known && r.parts[k].known
		values = append(values, r.parts[k].value)
	}
	if p.isLeaf() {
		if len(values) > 0 {
			p.value, _ = eval.Apply(n.Op, n.P, n.Q, values)
		}
		return p
	}
	p.needs = r.needsOf(n)
	p.takes = make([]int, width(n.Sort))
	p.bits = slices.Repeat([]int{notMade}, width(n.Sort))
	return p
}

// needsOf tells how many parts are held at once, at least, while a node is made: the neediest operands come first, and those are held while others are made.
func (r *run) needsOf(n api.Node) int {
	needs := 1
	for held, id := range r.neediestFirst(operands(n)) {
		needs = max(needs, held+r.parts[id].needs)
	}
	return needs
}

func (r *run) neediestFirst(ids []int) []int {
	l := slices.Clone(ids)
	slices.SortStableFunc(l, r.byNeeds)
	return l
}

func (r *run) byNeeds(a, b int) int { return cmp.Compare(r.parts[b].needs, r.parts[a].needs) }

// width tells how many bits a part has.
func (r *run) width(id int) int { return width(r.parts[id].node.Sort) }

// want counts a take.
func (r *run) want(w wire) {
	p := r.parts[w.id]
	if !p.isLeaf() {
		p.takes[w.bit]++
		p.top = max(p.top, w.bit+1)
	}
}

// wantOperands counts what a part will take, whose own takes are counted.
func (r *run) wantOperands(p *part) {
	if p.isLeaf() {
		return
	}
	for i := range r.steps(p) {
		if shapeOf(p.node.Op) == separate && p.takes[i] == 0 {
			continue
		}
		for _, w := range r.wires(p, i) {
			r.want(w)
		}
	}
}

// bitByBit tells the term's bits; of a part nothing is made before it is taken.
func (r *run) bitByBit() ([]int, api.Errno) {
	var out []int
	for i := range r.width(r.root) {
		out = append(out, r.take(wire{r.root, i}))
	}
	if r.refused != api.OK {
		r.release(out...)
		return nil, r.refused
	}
	return out, api.OK
}

// wordByWord tells the term's bits; of a part all is made that will be taken, before anything that is made of it.
func (r *run) wordByWord() ([]int, api.Errno) {
	for _, id := range r.order() {
		for i, n := range r.parts[id].takes {
			if n > 0 {
				r.make(wire{id, i})
			}
		}
	}
	return r.bitByBit()
}

// order tells all parts, each close behind its operands.
func (r *run) order() []int {
	var order []int
	met := map[int]struct{}{}
	var visit func(id int)
	visit = func(id int) {
		if _, ok := met[id]; ok {
			return
		}
		met[id] = struct{}{}
		for _, k := range r.neediestFirst(operands(r.parts[id].node)) {
			visit(k)
		}
		order = append(order, id)
	}
	visit(r.root)
	return order
}

// take tells a bit's diagram, pinned once for the one who takes it.
func (r *run) take(w wire) int {
	p := r.parts[w.id]
	if p.known {
		return constant(p.value, w.bit)
	}
	if p.isLeaf() {
		return r.variable(p.node.Name, w.bit)
	}
	r.make(w)
	p.takes[w.bit]--
	if p.takes[w.bit] > 0 {
		r.again(p.bits[w.bit])
	}
	return p.bits[w.bit]
}

// constant tells a bit of a value.
func constant(v api.Bits, i int) int {
	if on, _ := bv.Bit(v, i); on || v == bv.Bool(true) {
		return 1
	}
	return 0
}

// takeAll tells the diagrams of several bits.
func (r *run) takeAll(l []wire) []int {
	r.makeAll(l)
	var out []int
	for _, w := range l {
		out = append(out, r.take(w))
	}
	return out
}

// makeAll makes several bits, those that need most first: what is made already waits for the others.
func (r *run) makeAll(l []wire) {
	first := slices.Clone(l)
	slices.SortStableFunc(first, func(a, b wire) int { return r.byNeeds(a.id, b.id) })
	for _, w := range first {
		r.make(w)
	}
}

// make makes a bit, if it isn't made yet.
func (r *run) make(w wire) {
	p := r.parts[w.id]
	if p.isLeaf() || p.bits[w.bit] != notMade {
		return
	}
	switch shapeOf(p.node.Op) {
	case separate:
		p.bits[w.bit] = r.separate(p, w.bit)
	case streamed:
		r.stream(p, w.bit)
	case compared:
		p.bits[w.bit] = r.compare(p)
	case whole:
		r.whole(p)
	}
}
