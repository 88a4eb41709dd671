package blast_test

import (
	"slices"
	"testing"

	"plait/api"
)

// With room for each number of nodes up to what it needs: refused only where the graph is full, and told where there is room.
func TestEachRoom(t *testing.T) {
	for _, op := range []int{api.OpBvAdd, api.OpBvMul, api.OpBvUdiv, api.OpBvUrem, api.OpBvSmod, api.OpBvShl, api.OpSlt, api.OpEq, api.OpConcat} {
		whole := newBench(t, api.MaxGraph)
		whole.bits(whole.two(op, whole.variable("x", 4), whole.variable("y", 4)))
		need := whole.graph.Nodes()
		for most := 1; most <= need+1; most++ {
			b := newBench(t, most)
			x, y := b.variable("x", 4), b.variable("y", 4)
			id := b.two(op, x, y)
			p := b.variable("p", 0)
			l, e := b.Term(id)
			if most >= need {
				if e != api.OK {
					t.Fatalf("P9.1: operator %d of %d nodes, with room for %d: %v", op, need, most, e)
				}
				continue
			}
			if len(l) > 0 || e != api.ErrAigMany || b.graph.Nodes() != most || !b.isFull() {
				t.Fatalf("P9.1: operator %d of %d nodes, with room for %d: %v, %v, %d nodes", op, need, most, l, e, b.graph.Nodes())
			}
			b.checkRefused(most, id, x, y, p)
		}
	}
}

// checkRefused: behind a refused term of x and y, of 4 bits each, in a graph of so many nodes.
func (b *bench) checkRefused(most, id, x, y, p int) {
	b.Helper()
	names := []string{"x", "y"}[:min(most/4, 2)]
	for range 2 {
		if got := b.Names(); !slices.Equal(got, names) {
			b.Fatalf("P9.1: with room for %d: names %v", most, got)
		}
		// All of a variable's inputs, or none.
		for i, name := range []string{"x", "y", "p"} {
			v, ok := b.Var(name)
			l, e := b.Term([]int{x, y, p}[i])
			if ok != slices.Contains(names, name) || ok && len(v) != 4 || !ok && len(v) > 0 {
				b.Fatalf("P9.1: with room for %d: Var(%q): %v, %v", most, name, v, ok)
			}
			if ok && (e != api.OK || !slices.Equal(l, v)) || !ok && (e != api.ErrAigMany || len(l) > 0) {
				b.Fatalf("P9.1: with room for %d: Term of %s: %v, %v", most, name, l, e)
			}
		}
		if l, e := b.Term(id); len(l) > 0 || e != api.ErrAigMany {
			b.Fatalf("P9.1: with room for %d, again: %v, %v", most, l, e)
		}
		if _, e := b.Term(b.terms.Len() + 1); e != api.ErrBlastNone {
			b.Fatalf("P9.1: no such node, in a full graph: %v", e)
		}
	}
}

// In a full graph all is told that needs no node.
func TestFullGraphTellsWhatItHas(t *testing.T) {
	b := newBench(t, 14)
	x, y := b.variable("x", 4), b.variable("y", 4)
	and := b.two(api.OpBvAnd, x, y)
	told := b.told([]int{and})
	mul := b.two(api.OpBvMul, and, b.two(api.OpBvAdd, x, y))
	if _, e := b.Term(mul); e != api.ErrAigMany {
		t.Fatalf("P9.1: %v", e)
	}
	if l := b.bits(and); !slices.Equal(l, told[and]) {
		t.Errorf("P9.3: %v, then %v", told[and], l)
	}
	for _, n := range []api.Node{
		{Op: api.OpBvNot, A: x}, {Op: api.OpRotl, A: x, P: 3}, {Op: api.OpConcat, A: x, B: y}, {Op: api.OpExtract, A: y, P: 2, Q: 1},
		{Op: api.OpSext, A: x, P: 9}, {Op: api.OpZext, A: y, P: 9}, {Op: api.OpRepeat, A: x, P: 5}, {Op: api.OpBvNand, A: y, B: x},
		{Op: api.OpBvXor, A: x, B: x}, {Op: api.OpBvSub, A: x, B: x}, {Op: api.OpEq, A: y, B: y}, {Op: api.OpUlt, A: x, B: x},
	} {
		id := b.node(n)
		told[id] = b.bits(id)
	}
	told[x], told[y] = b.bits(x), b.bits(y)
	b.checkMeaning(told, assignments(api.Param{Name: "x", Sort: 4}, api.Param{Name: "y", Sort: 4}))
	if b.graph.Nodes() != 14 {
		t.Errorf("P9.1: %d nodes", b.graph.Nodes())
	}
}

// The parts of a refused term that found room are told.
func TestPartsOfARefusedTerm(t *testing.T) {
	b := newBench(t, 40)
	x, y := b.variable("x", 4), b.variable("y", 4)
	sum := b.two(api.OpBvAdd, x, y)
	mul := b.two(api.OpBvMul, sum, x)
	z := b.variable("z", 4)
	if _, e := b.Term(b.two(api.OpBvXor, mul, z)); e != api.ErrAigMany {
		t.Fatalf("P9.1: %v", e)
	}
	// Asked for with the term: it has inputs, though the room ended ahead of the and that needs them.
	if v, ok := b.Var("z"); !ok || len(v) != 4 {
		t.Errorf("P9.1: Var: %v, %v", v, ok)
	}
	told := b.told([]int{x, y, z, sum})
	b.checkMeaning(told, assignments(api.Param{Name: "x", Sort: 4}, api.Param{Name: "y", Sort: 4}, api.Param{Name: "z", Sort: 4}))
}

// A word of MaxWidth in a graph with room for just its inputs.
func TestRoomForInputsOnly(t *testing.T) {
	b := newBench(t, api.MaxWidth)
	x := b.variable("x", api.MaxWidth)
	l := b.bits(x)
	turned := b.bits(b.node(api.Node{Op: api.OpBvNot, A: x}))
	for i := range l {
		if l[i] != 2*(i+1) || turned[i] != l[i]^1 {
			t.Fatalf("P9.1: bit %d: %d, turned %d", i, l[i], turned[i])
		}
	}
	if _, e := b.Term(b.variable("p", 0)); e != api.ErrAigMany {
		t.Errorf("P9.1: %v", e)
	}
	b.checkInputs()
}

// What is greater than MaxGraph is refused, and the graph is full then.
func TestMaxGraph(t *testing.T) {
	for _, op := range []int{api.OpBvMul, api.OpBvUdiv, api.OpBvSmod} {
		b := newBench(t, api.MaxGraph)
		x, y := b.variable("x", api.MaxWidth), b.variable("y", api.MaxWidth)
		told := b.told([]int{b.two(api.OpBvAdd, x, y)})
		id := b.two(op, x, y)
		for range 2 {
			if l, e := b.Term(id); len(l) > 0 || e != api.ErrAigMany || b.graph.Nodes() != api.MaxGraph {
				t.Fatalf("P9.1: operator %d: %d literals, %v, at %d nodes", op, len(l), e, b.graph.Nodes())
			}
		}
		b.checkMeaning(told, edgeAssignments(api.MaxWidth))
	}
}

// No promise asks for this, but sessions have MaxGraph nodes for all: what costs nothing makes no and, each circuit of words of 64 bits has room, and each product with a constant.
func TestCosts(t *testing.T) {
	for _, w := range []int{1, 8, 64, 128} {
		for i := range w {
			b := newBench(t, api.MaxGraph)
			x := b.variable("x", w)
			c := b.constant(power(w, i))
			distance := b.constant(value(w, uint64(i), 0))
			b.told([]int{
				b.two(api.OpBvMul, x, c), b.two(api.OpBvMul, c, x), b.two(api.OpBvUdiv, x, c), b.two(api.OpBvUrem, x, c),
				b.two(api.OpBvShl, x, distance), b.two(api.OpBvLshr, x, distance), b.two(api.OpBvAshr, x, distance),
			})
			if b.ands() > 0 {
				t.Errorf("%d bits, 2^%d: %d ands", w, i, b.ands())
			}
		}
	}
	for _, v := range factors() {
		b := newBench(t, api.MaxGraph)
		b.bits(b.two(api.OpBvMul, b.variable("x", api.MaxWidth), b.constant(v)))
	}
	for op := api.OpBvAnd; op <= api.OpSge; op++ {
		b := newBench(t, api.MaxGraph)
		x, y := b.variable("x", 64), b.variable("y", 64)
		l := b.bits(b.two(op, x, y))
		if isCommutative(op) && !slices.Equal(b.bits(b.two(op, y, x)), l) {
			t.Errorf("operator %d: another circuit the other way round", op)
		}
	}
}

func isCommutative(op int) bool {
	return op >= api.OpBvAnd && op <= api.OpBvAdd || op == api.OpBvMul
}

// power is 2^i.
func power(w, i int) api.Bits {
	if i < 64 {
		return value(w, 1<<i, 0)
	}
	return value(w, 0, 1<<(i-64))
}

// factors are constants of MaxWidth, with few and many bits 1, in runs of each length.
func factors() []api.Bits {
	l := edges(api.MaxWidth)
	for _, run := range []uint64{0x5555555555555555, 0xaaaaaaaaaaaaaaaa, 0xdb6db6db6db6db6d, 0x7777777777777777, 0xbdef7bdef7bdef7b, 0x3333333333333333} {
		l = append(l, value(api.MaxWidth, run, run))
	}
	return l
}
