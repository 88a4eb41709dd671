package ddbits_test

import (
	"math/rand"
	"slices"
	"strconv"
	"strings"
	"testing"

	"plait/api"
	"plait/bv"
	"plait/dd"
	"plait/ddbits"
	"plait/eval"
	"plait/term"
)

// bench: a term graph, and a builder over all variables that it had when the builder was made.
type bench struct {
	*testing.T
	terms *term.Graph
	*ddbits.Builder
	places []api.Place
}

func newBench(t *testing.T) *bench {
	return &bench{T: t, terms: term.New(api.MaxTerms)}
}

// open makes the builder.
func (b *bench) open(most int) *bench {
	b.Builder = ddbits.New(b.terms, b.terms.Vars(), most)
	b.places = ddbits.Order(b.terms, b.terms.Vars())
	return b
}

func (b *bench) node(n api.Node) int {
	b.Helper()
	id, e := b.terms.Make(n)
	if e != api.OK {
		b.Fatalf("Make(%+v): %v", n, e)
	}
	return id
}

func (b *bench) variable(name string, sort int) int {
	b.Helper()
	return b.node(api.Node{Op: api.OpVar, Sort: sort, Name: name})
}

func (b *bench) constant(v api.Bits) int {
	b.Helper()
	return b.node(api.Node{Op: api.OpConst, Sort: v.W, V: v})
}

// number is a constant.
func (b *bench) number(w int, n uint64) int {
	b.Helper()
	return b.constant(value(w, n, 0))
}

func (b *bench) two(op, x, y int) int {
	b.Helper()
	return b.node(api.Node{Op: op, A: x, B: y})
}

// bits asks for a term that must have room.
func (b *bench) bits(id int) []int {
	b.Helper()
	l, e := b.Term(id)
	n, _ := b.terms.Node(id)
	if e != api.OK || len(l) != width(n.Sort) {
		b.Fatalf("P15.2: Term(%d), %+v: %d diagrams, %v", id, n, len(l), e)
	}
	return l
}

// drop unpins each bit once.
func (b *bench) drop(l []int) {
	b.Helper()
	for i, f := range l {
		if e := b.Manager().Unpin(f); e != api.OK {
			b.Fatalf("P15.2: bit %d, %d, isn't pinned once more: %v", i, f, e)
		}
	}
}

// checkNothingPinned asks for a builder all whose bits were dropped.
func (b *bench) checkNothingPinned() {
	b.Helper()
	if n := b.Manager().Live(); n != 0 {
		b.Fatalf("P15.2: %d nodes are pinned", n)
	}
}

// checkMeaning holds the diagrams of a term's bits against the evaluator.
func (b *bench) checkMeaning(id int, l []int, envs [][]api.Named) {
	b.Helper()
	for _, env := range envs {
		in := b.input(env)
		v, e := eval.Eval(b.terms, id, env)
		if e != api.OK {
			b.Fatalf("Eval(%d): %v", id, e)
		}
		for i, f := range l {
			if got, e := b.Manager().Eval(f, in); e != api.OK || got != bit(v, i) {
				n, _ := b.terms.Node(id)
				b.Fatalf("P15.2: bit %d of %d, %+v, under %v: %v, %v; should be that of %v", i, id, n, env, got, e, v)
			}
		}
	}
}

// input tells the values of the manager's variables.
func (b *bench) input(env []api.Named) []bool {
	var in []bool
	for _, p := range b.places {
		i := slices.IndexFunc(env, func(x api.Named) bool { return x.Name == p.Name })
		in = append(in, i >= 0 && bit(env[i].V, p.Bit))
	}
	return in
}

// nodes tells how many nodes these diagrams are made of, in all.
func nodes(m *dd.Manager, l ...int) int {
	met := map[int]bool{}
	var visit func(f int)
	visit = func(f int) {
		if _, no, yes, ok := m.Node(f); ok && !met[f] {
			met[f] = true
			visit(no)
			visit(yes)
		}
	}
	for _, f := range l {
		visit(f)
	}
	return len(met)
}

func width(sort int) int { return max(sort, 1) }

func bit(v api.Bits, i int) bool {
	if i < 64 {
		return v.Lo>>i&1 == 1
	}
	return v.Hi>>(i-64)&1 == 1
}

func value(sort int, lo, hi uint64) api.Bits {
	if sort == 0 {
		return bv.Bool(lo&1 == 1)
	}
	v, _ := bv.New(sort, lo, hi)
	return v
}

// assignments are all of these variables.
func assignments(params ...api.Param) [][]api.Named {
	l := [][]api.Named{nil}
	for _, p := range params {
		var more [][]api.Named
		for _, env := range l {
			for i := range 1 << width(p.Sort) {
				more = append(more, append(env[:len(env):len(env)], api.Named{Name: p.Name, V: value(p.Sort, uint64(i), 0)}))
			}
		}
		l = more
	}
	return l
}

// some tells assignments of all variables, by chance, small numbers among them.
func (b *bench) some(source *rand.Rand, n int) [][]api.Named {
	var l [][]api.Named
	for range n {
		var env []api.Named
		for _, id := range b.terms.Vars() {
			x, _ := b.terms.Node(id)
			lo, hi := source.Uint64(), source.Uint64()
			switch source.Intn(4) {
			case 0:
				lo, hi = lo>>source.Intn(64), 0
			case 1:
				lo, hi = ^uint64(0)<<source.Intn(64), ^uint64(0)
			}
			env = append(env, api.Named{Name: x.Name, V: value(x.Sort, lo, hi)})
		}
		l = append(l, env)
	}
	return l
}

// places are what the numbered operators are asked with, of a word of w bits.
func places(w int) []api.Node {
	var l []api.Node
	for p := range w {
		for _, q := range []int{0, p / 2, p} {
			l = append(l, api.Node{Op: api.OpExtract, P: p, Q: q})
		}
	}
	for _, op := range []int{api.OpRotl, api.OpRotr} {
		for _, p := range []int{0, 1, 2, w - 1, w, w + 1, 3*w + 2, 1<<63 - 1} {
			l = append(l, api.Node{Op: op, P: p})
		}
	}
	for _, p := range []int{0, 1, 2, api.MaxWidth - w} {
		if w+p <= api.MaxWidth {
			l = append(l, api.Node{Op: api.OpZext, P: p}, api.Node{Op: api.OpSext, P: p})
		}
	}
	for _, p := range []int{1, 2, 3, api.MaxWidth / w} {
		if w*p <= api.MaxWidth {
			l = append(l, api.Node{Op: api.OpRepeat, P: p})
		}
	}
	return l
}

// isCostly tells whether an operator's diagrams grow without bound.
func isCostly(op int) bool { return op >= api.OpBvMul && op <= api.OpBvSmod }

// applied makes a term of each operator of words, of x and y, but for the costly ones, if these aren't asked for.
func (b *bench) applied(x, y int, costly bool) []int {
	b.Helper()
	n, _ := b.terms.Node(x)
	w := n.Sort
	ids := []int{
		b.node(api.Node{Op: api.OpBvNot, A: x}), b.node(api.Node{Op: api.OpBvNeg, A: x}),
		b.two(api.OpEq, x, y), b.two(api.OpComp, x, y),
	}
	for op := api.OpBvAnd; op <= api.OpSge; op++ {
		if costly || !isCostly(op) {
			ids = append(ids, b.two(op, x, y))
		}
	}
	if 2*w <= api.MaxWidth {
		ids = append(ids, b.two(api.OpConcat, x, y))
	}
	for _, n := range places(w) {
		n.A = x
		ids = append(ids, b.node(n))
	}
	return ids
}

// sown makes variables of several sorts and constants, and terms of all operators above them, by chance, until there are most.
func (b *bench) sown(source *rand.Rand, w, most int) {
	for _, p := range []api.Param{{Name: "x", Sort: w}, {Name: "y", Sort: w}, {Name: "p"}, {Name: "z", Sort: 2 * w}} {
		b.variable(p.Name, p.Sort)
	}
	b.constant(bv.Bool(source.Intn(2) == 1))
	b.number(w, source.Uint64())
	for tries := 0; b.terms.Len() < most && tries < 200*most; tries++ {
		n := api.Node{Op: api.OpNot + source.Intn(api.OpRepeat-api.OpNot+1)}
		for _, p := range []*int{&n.A, &n.B, &n.C}[:term.Arity(n.Op)] {
			*p = 1 + source.Intn(b.terms.Len())
		}
		switch n.Op {
		case api.OpExtract:
			n.P, n.Q = source.Intn(2*w+1), source.Intn(w)
		case api.OpZext, api.OpSext, api.OpRotl, api.OpRotr, api.OpRepeat:
			n.P = source.Intn(w + 2)
		}
		b.terms.Make(n)
	}
}

// valuesOf tells a term's sort, and its values, as a text.
func (b *bench) valuesOf(id int, envs [][]api.Named) string {
	n, _ := b.terms.Node(id)
	l := []int{n.Sort}
	for _, env := range envs {
		v, _ := eval.Eval(b.terms, id, env)
		l = append(l, int(v.Lo))
	}
	return text(l)
}

func text(l []int) string {
	var s strings.Builder
	for _, n := range l {
		s.WriteString(strconv.Itoa(n) + " ")
	}
	return s.String()
}
