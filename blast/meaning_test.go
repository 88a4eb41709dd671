package blast_test

import (
	"math"
	"math/rand"
	"slices"
	"testing"

	"plait/api"
	"plait/bv"
	"plait/term"
)

// places are what the numbered operators are asked with, of a word of w bits.
func places(w int) []api.Node {
	var l []api.Node
	for p := range w {
		for q := range p + 1 {
			if w <= 5 || p == q || q == 0 || p == w-1 {
				l = append(l, api.Node{Op: api.OpExtract, P: p, Q: q})
			}
		}
	}
	for _, op := range []int{api.OpRotl, api.OpRotr} {
		for _, p := range []int{0, 1, 2, w / 2, w - 1, w, w + 1, 2*w - 1, 3 * w, 1000, math.MaxInt} {
			l = append(l, api.Node{Op: op, P: p})
		}
	}
	for _, p := range []int{0, 1, 2, 63, 64, api.MaxWidth - w} {
		if w+p <= api.MaxWidth {
			l = append(l, api.Node{Op: api.OpZext, P: p}, api.Node{Op: api.OpSext, P: p})
		}
	}
	for _, p := range []int{1, 2, 3, api.MaxWidth / w} {
		if w*p <= api.MaxWidth {
			l = append(l, api.Node{Op: api.OpRepeat, P: p})
		}
	}
	return l
}

// isCostly tells whether an operator's circuit grows by the square of the width.
func isCostly(op int) bool { return op >= api.OpBvMul && op <= api.OpBvSmod }

// applied makes a term of each operator of words, of x and y, but for those that cost too much.
func (b *bench) applied(x, y int, costly bool) []int {
	b.Helper()
	n, _ := b.terms.Node(x)
	w := n.Sort
	ids := []int{
		b.node(api.Node{Op: api.OpBvNot, A: x}), b.node(api.Node{Op: api.OpBvNeg, A: x}),
		b.two(api.OpEq, x, y), b.two(api.OpComp, x, y),
	}
	for op := api.OpBvAnd; op <= api.OpSge; op++ {
		if costly || !isCostly(op) {
			ids = append(ids, b.two(op, x, y))
		}
	}
	if 2*w <= api.MaxWidth {
		ids = append(ids, b.two(api.OpConcat, x, y))
	}
	for _, n := range places(w) {
		n.A = x
		ids = append(ids, b.node(n))
	}
	return ids
}

// told asks for each term.
func (b *bench) told(ids []int) map[int][]int {
	b.Helper()
	told := map[int][]int{}
	for _, id := range ids {
		told[id] = b.bits(id)
	}
	return told
}

func TestOperatorsOfWords(t *testing.T) {
	for w := 1; w <= 4; w++ {
		b := newBench(t, api.MaxGraph)
		x, y, p := b.variable("x", w), b.variable("y", w), b.variable("p", 0)
		ids := append(b.applied(x, y, true), b.applied(y, x, true)...)
		ids = append(ids, b.node(api.Node{Op: api.OpIte, A: p, B: x, C: y}))
		b.checkMeaning(b.told(ids), assignments(api.Param{Name: "x", Sort: w}, api.Param{Name: "y", Sort: w}, api.Param{Name: "p"}))
		b.checkInputs()
	}
}

func TestOperatorsOfWideWords(t *testing.T) {
	for _, w := range []int{5, 7, 8, 13, 31, 32, 33, 63, 64, 65, 100, 127, 128} {
		b := newBench(t, api.MaxGraph)
		x, y, p := b.variable("x", w), b.variable("y", w), b.variable("p", 0)
		ids := b.applied(x, y, w <= 13)
		ids = append(ids, b.node(api.Node{Op: api.OpIte, A: p, B: x, C: y}))
		b.checkMeaning(b.told(ids), edgeAssignments(w))
		b.checkInputs()
	}
}

// The costly ones of wide words, each in a graph of its own.
func TestCostlyOperatorsOfWideWords(t *testing.T) {
	for _, w := range []int{16, 32, 33, 64} {
		for op := api.OpBvMul; op <= api.OpBvSmod; op++ {
			b := newBench(t, api.MaxGraph)
			id := b.two(op, b.variable("x", w), b.variable("y", w))
			b.checkMeaning(b.told([]int{id}), edgeAssignments(w))
		}
	}
}

func TestOperatorsOfBools(t *testing.T) {
	b := newBench(t, api.MaxGraph)
	parts := []int{
		b.variable("p", 0), b.variable("q", 0), b.variable("r", 0),
		b.constant(bv.Bool(false)), b.constant(bv.Bool(true)),
	}
	var ids []int
	for _, x := range parts {
		ids = append(ids, x, b.node(api.Node{Op: api.OpNot, A: x}))
		for _, y := range parts {
			for op := api.OpAnd; op <= api.OpEq; op++ {
				ids = append(ids, b.two(op, x, y))
			}
			for _, z := range parts {
				ids = append(ids, b.node(api.Node{Op: api.OpIte, A: x, B: y, C: z}))
			}
		}
	}
	b.checkMeaning(b.told(ids), assignments(api.Param{Name: "p"}, api.Param{Name: "q"}, api.Param{Name: "r"}))
	b.checkInputs()
}

// Choices between literals that are the condition, its opposite, the other's opposite, and so on.
func TestChoicesOfTheSame(t *testing.T) {
	b := newBench(t, api.MaxGraph)
	var parts []int
	for _, name := range []string{"p", "q", "r"} {
		x := b.variable(name, 0)
		parts = append(parts, x, b.node(api.Node{Op: api.OpNot, A: x}))
	}
	parts = append(parts, b.constant(bv.Bool(false)), b.constant(bv.Bool(true)))
	var ids []int
	for _, c := range parts {
		for _, x := range parts {
			for _, y := range parts {
				ids = append(ids, b.node(api.Node{Op: api.OpIte, A: c, B: x, C: y}))
			}
		}
	}
	b.checkMeaning(b.told(ids), assignments(api.Param{Name: "p"}, api.Param{Name: "q"}, api.Param{Name: "r"}))
}

// One operand is a constant, or both are.
func TestConstants(t *testing.T) {
	for w := 1; w <= 4; w++ {
		b := newBench(t, api.MaxGraph)
		x := b.variable("x", w)
		var ids []int
		for i := range 1 << w {
			c := b.constant(value(w, uint64(i), 0))
			for op := api.OpBvAnd; op <= api.OpConcat; op++ {
				ids = append(ids, b.two(op, x, c), b.two(op, c, x), b.two(op, c, b.constant(value(w, uint64(3*i+1), 0))))
			}
			ids = append(ids, c, b.two(api.OpEq, x, c), b.two(api.OpEq, c, x), b.node(api.Node{Op: api.OpBvNeg, A: c}))
		}
		b.checkMeaning(b.told(ids), assignments(api.Param{Name: "x", Sort: w}))
		b.checkInputs()
	}
}

func TestWideConstants(t *testing.T) {
	for _, w := range []int{9, 32, 64, 65, 128} {
		envs := [][]api.Named{}
		for _, v := range edges(w) {
			envs = append(envs, []api.Named{{Name: "x", V: v}})
		}
		for _, v := range edges(w) {
			for op := api.OpBvAnd; op <= api.OpComp; op++ {
				b := newBench(t, api.MaxGraph)
				x, c := b.variable("x", w), b.constant(v)
				for _, id := range []int{c, b.two(op, x, c), b.two(op, c, x)} {
					l, e := b.Term(id)
					if e == api.OK {
						b.checkMeaning(map[int][]int{id: l}, envs)
					} else if e != api.ErrAigMany || b.graph.Nodes() < api.MaxGraph || !isCostly(op) {
						t.Fatalf("P9.1: operator %d of %d bits and %v: %v, at %d nodes", op, w, v, e, b.graph.Nodes())
					}
				}
			}
		}
	}
}

// Products with all constants of 8 bits, and with some of MaxWidth.
func TestConstantFactors(t *testing.T) {
	all := factors()
	for i := range 256 {
		all = append(all, value(8, uint64(i), 0))
	}
	for _, v := range all {
		b := newBench(t, api.MaxGraph)
		x, c := b.variable("x", v.W), b.constant(v)
		told := b.told([]int{b.two(api.OpBvMul, x, c), b.two(api.OpBvMul, c, x)})
		for _, u := range edges(v.W) {
			b.checkMeaning(told, [][]api.Named{{{Name: "x", V: u}}})
		}
	}
}

// A word and what is made of it: circuits that meet themselves.
func TestSameOperands(t *testing.T) {
	for w := 1; w <= 4; w++ {
		b := newBench(t, api.MaxGraph)
		x, one := b.variable("x", w), b.constant(value(w, 1, 0))
		parts := []int{
			x, b.node(api.Node{Op: api.OpBvNot, A: x}), b.node(api.Node{Op: api.OpBvNeg, A: x}),
			b.two(api.OpBvAdd, x, one), b.two(api.OpBvXor, x, one), b.two(api.OpBvShl, x, one),
			b.node(api.Node{Op: api.OpRotl, A: x, P: 1}),
		}
		var ids []int
		for _, y := range parts {
			for _, z := range parts {
				for op := api.OpBvAnd; op <= api.OpConcat; op++ {
					ids = append(ids, b.two(op, y, z))
				}
			}
		}
		b.checkMeaning(b.told(ids), assignments(api.Param{Name: "x", Sort: w}))
	}
}

// sown makes variables of several sorts and constants, and terms of all operators above them, by chance, until there are most.
func (b *bench) sown(source *rand.Rand, w, most int) {
	for _, p := range []api.Param{{Name: "x", Sort: w}, {Name: "y", Sort: w}, {Name: "p"}, {Name: "q"}, {Name: "z", Sort: 2 * w}} {
		b.variable(p.Name, p.Sort)
	}
	b.constant(bv.Bool(source.Intn(2) == 1))
	b.constant(value(w, source.Uint64(), source.Uint64()))
	for tries := 0; b.terms.Len() < most && tries < 200*most; tries++ {
		n := api.Node{Op: api.OpNot + source.Intn(api.OpRepeat-api.OpNot+1)}
		for _, p := range []*int{&n.A, &n.B, &n.C}[:term.Arity(n.Op)] {
			*p = 1 + source.Intn(b.terms.Len())
		}
		switch n.Op {
		case api.OpExtract:
			n.P, n.Q = source.Intn(2*w+1), source.Intn(w)
		case api.OpZext, api.OpSext, api.OpRotl, api.OpRotr, api.OpRepeat:
			n.P = source.Intn(w + 2)
		}
		b.terms.Make(n)
	}
}

// random tells assignments of all variables.
func (b *bench) random(source *rand.Rand, n int) [][]api.Named {
	var l [][]api.Named
	for range n {
		var env []api.Named
		for _, id := range b.terms.Vars() {
			x, _ := b.terms.Node(id)
			lo, hi := source.Uint64(), source.Uint64()
			if source.Intn(3) == 0 {
				lo, hi = lo>>source.Intn(64), 0
			}
			env = append(env, api.Named{Name: x.Name, V: value(x.Sort, lo, hi)})
		}
		l = append(l, env)
	}
	return l
}

// Terms of terms, asked for in any order: what is told has the terms' values, again what was told, and inputs that are just those of Names; or the graph is full.
func TestRandomTerms(t *testing.T) {
	source := rand.New(rand.NewSource(9))
	for round := range 120 {
		b := newBench(t, []int{api.MaxGraph, api.MaxGraph, 400, 60, 12}[round%5])
		w := 1 + round%12
		if round%10 == 9 {
			w = 64
		}
		b.sown(source, w, 60)
		told := map[int][]int{}
		refused := false
		for _, i := range source.Perm(b.terms.Len()) {
			l, e := b.Term(i + 1)
			switch {
			case e == api.OK:
				told[i+1] = l
			case e != api.ErrAigMany || len(l) > 0 || !b.isFull():
				t.Fatalf("P9.1: round %d: Term(%d): %v, %v, at %d nodes", round, i+1, l, e, b.graph.Nodes())
			default:
				refused = true
			}
		}
		b.checkMeaning(told, b.random(source, 25))
		for id, l := range told {
			if again := b.bits(id); !slices.Equal(again, l) {
				t.Fatalf("P9.3: round %d: Term(%d): %v, then %v", round, id, l, again)
			}
		}
		b.inputs()
		if !refused {
			b.checkInputs()
		}
	}
}

// isFull tells whether the graph is; it has a node more, if it isn't.
func (b *bench) isFull() bool {
	_, e := b.graph.Input()
	return e == api.ErrAigMany
}
