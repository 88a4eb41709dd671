package blast_test

import (
	"math/rand"
	"slices"
	"testing"

	"plait/aig"
	"plait/api"
	"plait/blast"
	"plait/bv"
	"plait/eval"
	"plait/term"
)

// bench: a term graph, an and-inverter graph, and a blaster over both.
type bench struct {
	*testing.T
	terms *term.Graph
	graph *aig.Graph
	*blast.Blaster
}

func newBench(t *testing.T, most int) *bench {
	g, a := term.New(api.MaxTerms), aig.New(most)
	return &bench{t, g, a, blast.New(g, a)}
}

func (b *bench) node(n api.Node) int {
	b.Helper()
	id, e := b.terms.Make(n)
	if e != api.OK {
		b.Fatalf("Make(%+v): %v", n, e)
	}
	return id
}

func (b *bench) variable(name string, sort int) int {
	b.Helper()
	return b.node(api.Node{Op: api.OpVar, Sort: sort, Name: name})
}

func (b *bench) constant(v api.Bits) int {
	b.Helper()
	return b.node(api.Node{Op: api.OpConst, Sort: v.W, V: v})
}

func (b *bench) two(op, x, y int) int {
	b.Helper()
	return b.node(api.Node{Op: op, A: x, B: y})
}

// bits asks for a term that must have room.
func (b *bench) bits(id int) []int {
	b.Helper()
	l, e := b.Term(id)
	n, _ := b.terms.Node(id)
	if e != api.OK || len(l) != width(n.Sort) {
		b.Fatalf("P9.1: Term(%d), %+v: %d literals, %v", id, n, len(l), e)
	}
	return l
}

// ands tells how many ands the graph has.
func (b *bench) ands() int { return b.graph.Nodes() - len(b.graph.Inputs()) }

// inputs tells the inputs of all variables, in the order of Names.
func (b *bench) inputs() []int {
	b.Helper()
	var l []int
	for _, name := range b.Names() {
		v, ok := b.Var(name)
		id, _ := b.terms.Var(name)
		n, _ := b.terms.Node(id)
		if !ok || len(v) != width(n.Sort) {
			b.Fatalf("P9.1: Var(%q) of sort %d: %v, %v", name, n.Sort, v, ok)
		}
		l = append(l, v...)
	}
	return l
}

// checkInputs: P9.3's second sentence, of a graph that had no inputs, and no refused call.
func (b *bench) checkInputs() {
	b.Helper()
	if l := b.inputs(); !slices.Equal(l, b.graph.Inputs()) {
		b.Fatalf("P9.3: inputs of %v: %v; of the graph: %v", b.Names(), l, b.graph.Inputs())
	}
}

// checkMeaning holds the literals of terms, which were told, against the evaluator.
func (b *bench) checkMeaning(told map[int][]int, envs [][]api.Named) {
	b.Helper()
	for _, env := range envs {
		values := b.values(env)
		for id, l := range told {
			v, e := eval.Eval(b.terms, id, env)
			if e != api.OK {
				b.Fatalf("Eval(%d): %v", id, e)
			}
			for i, c := range l {
				if values[c>>1] != (c&1 == 1) != bit(v, i) {
					n, _ := b.terms.Node(id)
					b.Fatalf("P9.2: bit %d of %d, %+v, under %v: should be that of %v", i, id, n, env, v)
				}
			}
		}
	}
}

// values tells those of all nodes of the graph. (The graph's own Eval goes through all of it for each literal.)
func (b *bench) values(env []api.Named) []bool {
	values := make([]bool, b.graph.Nodes()+1)
	for _, x := range env {
		inputs, _ := b.Var(x.Name)
		for i, l := range inputs {
			values[l>>1] = bit(x.V, i)
		}
	}
	of := func(l int) bool { return values[l>>1] != (l&1 == 1) }
	for n := range values {
		if k, l, ok := b.graph.Kids(n); ok {
			values[n] = of(k) && of(l)
		}
	}
	return values
}

func width(sort int) int { return max(sort, 1) }

func bit(v api.Bits, i int) bool {
	if i < 64 {
		return v.Lo>>i&1 == 1
	}
	return v.Hi>>(i-64)&1 == 1
}

func value(sort int, lo, hi uint64) api.Bits {
	if sort == 0 {
		return bv.Bool(lo&1 == 1)
	}
	v, _ := bv.New(sort, lo, hi)
	return v
}

// assignments are all of these variables, x first.
func assignments(params ...api.Param) [][]api.Named {
	l := [][]api.Named{nil}
	for _, p := range params {
		var more [][]api.Named
		for _, env := range l {
			for i := range 1 << width(p.Sort) {
				more = append(more, append(env[:len(env):len(env)], api.Named{Name: p.Name, V: value(p.Sort, uint64(i), 0)}))
			}
		}
		l = more
	}
	return l
}

// edges are values of a width at which something happens, and some others that are always the same.
func edges(w int) []api.Bits {
	source := rand.New(rand.NewSource(int64(w)))
	zero := value(w, 0, 0)
	ones, _ := bv.One(api.OpBvNot, zero)
	one := value(w, 1, 0)
	half, _ := bv.Two(api.OpBvShl, one, value(w, uint64(w-1), 0))
	most, _ := bv.One(api.OpBvNot, half)
	l := []api.Bits{zero, one, ones, half, most, value(w, 2, 0), value(w, 7, 0)}
	for _, n := range []int{w - 1, w, w + 1} {
		l = append(l, value(w, uint64(n), 0))
	}
	for range 8 {
		l = append(l, value(w, source.Uint64()>>source.Intn(64), source.Uint64()>>source.Intn(64)))
	}
	l = append(l, value(w, source.Uint64(), source.Uint64()), value(w, source.Uint64(), source.Uint64()))
	return l
}

// edgeAssignments are all of x and y out of edges, with p.
func edgeAssignments(w int) [][]api.Named {
	var l [][]api.Named
	for i, x := range edges(w) {
		for j, y := range edges(w) {
			l = append(l, []api.Named{{Name: "x", V: x}, {Name: "y", V: y}, {Name: "p", V: bv.Bool((i+j)%2 == 1)}})
		}
	}
	return l
}
