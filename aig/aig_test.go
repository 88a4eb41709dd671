package aig_test

import (
	"math"
	"math/rand"
	"slices"
	"testing"

	"plait/aig"
	"plait/api"
)

// inputs makes a graph with so many inputs and room for so many nodes.
func inputs(t *testing.T, most, n int) *aig.Graph {
	t.Helper()
	g := aig.New(most)
	for i := range n {
		if l, e := g.Input(); l != 2*(i+1) || e != api.OK {
			t.Fatalf("P8.1: input %d: %d, %v", i+1, l, e)
		}
	}
	return g
}

func want(t *testing.T, what string, l int, e api.Errno, wantL int, wantE api.Errno) {
	t.Helper()
	if l != wantL || e != wantE {
		t.Errorf("%s: %d, %v; should be %d, %v", what, l, e, wantL, wantE)
	}
}

func TestExamples(t *testing.T) {
	g := inputs(t, 100, 2)
	for _, x := range []struct{ a, b, want int }{{2, 4, 6}, {4, 2, 6}, {2, 3, 0}} {
		l, e := g.And(x.a, x.b)
		want(t, "P8.2: And", l, e, x.want, api.OK)
	}
	l, e := g.Or(2, 4)
	want(t, "P8.3: Or(2, 4)", l, e, 9, api.OK)
	l, e = g.Xor(2, 4)
	want(t, "P8.3: Xor(2, 4)", l, e, 15, api.OK)
	for n, kids := range map[int][2]int{3: {2, 4}, 4: {3, 5}, 5: {2, 5}, 6: {3, 4}, 7: {11, 13}} {
		if a, b, ok := g.Kids(n); a != kids[0] || b != kids[1] || !ok {
			t.Errorf("P8.1: Kids(%d): %d, %d, %v; should be %v", n, a, b, ok, kids)
		}
	}
}

func TestEmptyGraph(t *testing.T) {
	g := aig.New(10)
	if g.Nodes() != 0 || len(g.Inputs()) != 0 || len(g.Cone(0)) != 0 || len(g.Cone(1)) != 0 || len(g.Cone(2)) != 0 {
		t.Errorf("P8.1: %d nodes, inputs %v, cones %v, %v, %v", g.Nodes(), g.Inputs(), g.Cone(0), g.Cone(1), g.Cone(2))
	}
	for l := range 2 {
		if v, e := g.Eval(l, nil); v != (l == 1) || e != api.OK {
			t.Errorf("P8.4: Eval(%d): %v, %v", l, v, e)
		}
		if v, e := g.Eval(l, []bool{}); v != (l == 1) || e != api.OK {
			t.Errorf("P8.4: Eval(%d) of an empty list: %v, %v", l, v, e)
		}
	}
}

// All of And's first cases, with each literal of a small graph.
func TestAndWithoutANode(t *testing.T) {
	g := inputs(t, 3, 2)
	g.And(2, 4)
	for l := range 8 {
		for _, x := range []struct{ a, b, want int }{
			{0, l, 0}, {l, 0, 0}, {1, l, l}, {l, 1, l}, {l, l, l}, {l, l ^ 1, 0}, {l ^ 1, l, 0},
		} {
			got, e := g.And(x.a, x.b)
			want(t, "P8.2: And in a full graph", got, e, x.want, api.OK)
		}
	}
	if g.Nodes() != 3 {
		t.Errorf("P8.2: %d nodes", g.Nodes())
	}
}

func TestNewCountsAtMost(t *testing.T) {
	for _, x := range []struct{ most, room int }{
		{math.MinInt, 1}, {-1, 1}, {0, 1}, {1, 1}, {2, 2}, {7, 7},
		{api.MaxGraph - 1, api.MaxGraph - 1}, {api.MaxGraph, api.MaxGraph}, {api.MaxGraph + 1, api.MaxGraph}, {math.MaxInt, api.MaxGraph},
	} {
		g := inputs(t, x.most, x.room)
		for range 2 {
			l, e := g.Input()
			want(t, "P8.1: Input of a full graph", l, e, 0, api.ErrAigMany)
		}
		if g.Nodes() != x.room || len(g.Inputs()) != x.room {
			t.Errorf("P8.1: New(%d): %d nodes, %d inputs; should be %d", x.most, g.Nodes(), len(g.Inputs()), x.room)
		}
	}
}

func TestFullGraphRefusesAnds(t *testing.T) {
	g := inputs(t, 4, 3)
	l, e := g.And(2, 4)
	want(t, "P8.2: And with room for one", l, e, 8, api.OK)
	for range 2 {
		l, e = g.And(2, 6)
		want(t, "P8.2: And in a full graph", l, e, 0, api.ErrAigMany)
		l, e = g.And(2, 4)
		want(t, "P8.5: an And that there is", l, e, 8, api.OK)
		l, e = g.Or(3, 5)
		want(t, "P8.5: an Or that there is", l, e, 9, api.OK)
		l, e = g.Or(2, 4)
		want(t, "P8.3: Or in a full graph", l, e, 0, api.ErrAigMany)
		l, e = g.And(2, 10)
		want(t, "P8.2: And of no literal in a full graph", l, e, 0, api.ErrAigLit)
	}
	if g.Nodes() != 4 || !slices.Equal(g.Inputs(), []int{2, 4, 6}) {
		t.Errorf("P8.5: %d nodes, inputs %v", g.Nodes(), g.Inputs())
	}
}

// What was made ahead of a refusal stays: with room for 0, 1, 2 of three nodes.
func TestRefusedXorAndMux(t *testing.T) {
	for room := range 3 {
		g := inputs(t, 3+room, 3)
		l, e := g.Xor(2, 4)
		want(t, "P8.3: Xor without room", l, e, 0, api.ErrAigMany)
		checkMade(t, g, 4, room, [][2]int{{2, 5}, {3, 4}, {9, 11}})
		g = inputs(t, 3+room, 3)
		l, e = g.Mux(6, 4, 2)
		want(t, "P8.3: Mux without room", l, e, 0, api.ErrAigMany)
		checkMade(t, g, 4, room, [][2]int{{4, 6}, {2, 7}, {9, 11}})
	}
	g := inputs(t, 6, 3)
	l, e := g.Xor(2, 4)
	want(t, "P8.3: Xor with room", l, e, 13, api.OK)
	checkMade(t, g, 4, 3, [][2]int{{2, 5}, {3, 4}, {9, 11}})
}

// checkMade asks for the ands that were made, the first of them node first, and for no more.
func checkMade(t *testing.T, g *aig.Graph, first, made int, kids [][2]int) {
	t.Helper()
	if g.Nodes() != first-1+made {
		t.Fatalf("P8.5: %d nodes; should be %d", g.Nodes(), first-1+made)
	}
	for i, k := range kids[:made] {
		if a, b, ok := g.Kids(first + i); a != k[0] || b != k[1] || !ok {
			t.Errorf("P8.3: and %d has %d, %d, %v; should be %v", first+i, a, b, ok, k)
		}
	}
}

func TestNoLiterals(t *testing.T) {
	for _, most := range []int{2, 100} {
		g := inputs(t, most, 2)
		for _, no := range []int{-1, -2, -4, math.MinInt, math.MinInt + 1, 6, 7, 1 << 40, math.MaxInt, math.MaxInt - 1} {
			for _, l := range []int{0, 1, 2, 5, no} {
				for _, x := range []answer{
					told(g.And(no, l)), told(g.And(l, no)), told(g.Or(no, l)), told(g.Or(l, no)), told(g.Xor(no, l)), told(g.Xor(l, no)),
					told(g.Mux(no, 2, l)), told(g.Mux(no, l, 4)), told(g.Mux(2, no, l)), told(g.Mux(l, no, 4)), told(g.Mux(2, l, no)), told(g.Mux(l, 4, no)),
				} {
					want(t, "P8.3: of no literal", x.l, x.e, 0, api.ErrAigLit)
				}
			}
			if g.Nodes() != 2 {
				t.Fatalf("P8.3: ErrAigLit of %d, but %d nodes", no, g.Nodes())
			}
			if v, e := g.Eval(no, []bool{true, true}); v || e != api.ErrAigLit {
				t.Errorf("P8.4: Eval(%d): %v, %v", no, v, e)
			}
			if v, e := g.Eval(no, nil); v || e != api.ErrAigLit {
				t.Errorf("P8.4: Eval(%d) of too few inputs: %v, %v", no, v, e)
			}
			if cone := g.Cone(no); len(cone) != 0 {
				t.Errorf("P8.4: Cone(%d): %v", no, cone)
			}
			if a, b, ok := g.Kids(no); a != 0 || b != 0 || ok {
				t.Errorf("P8.1: Kids(%d): %d, %d, %v", no, a, b, ok)
			}
		}
	}
}

func TestEvalAsksForAllInputs(t *testing.T) {
	for n := range 5 {
		g := inputs(t, 100, n)
		for given := range 8 {
			in := make([]bool, given)
			for l := range 2*n + 2 {
				v, e := g.Eval(l, in)
				if given != n && (v || e != api.ErrAigIn) || given == n && e != api.OK {
					t.Errorf("P8.4: Eval(%d) of %d values for %d inputs: %v, %v", l, given, n, v, e)
				}
			}
		}
	}
}

// Inputs that were made behind an and count, too, in their own order.
func TestInputsBehindAnds(t *testing.T) {
	g := inputs(t, 100, 2)
	and, _ := g.And(3, 4)
	late, _ := g.Input()
	mux, _ := g.Mux(late, and, 2)
	if late != 8 || !slices.Equal(g.Inputs(), []int{2, 4, 8}) {
		t.Fatalf("P8.1: %d, inputs %v", late, g.Inputs())
	}
	for i := range 8 {
		in := []bool{i&1 > 0, i&2 > 0, i&4 > 0}
		chosen := in[0]
		if in[2] {
			chosen = !in[0] && in[1]
		}
		if v, e := g.Eval(mux, in); v != chosen || e != api.OK {
			t.Errorf("P8.5: Mux under %v: %v, %v; should be %v", in, v, e, chosen)
		}
		if v, e := g.Eval(and, in); v != (!in[0] && in[1]) || e != api.OK {
			t.Errorf("P8.4: And under %v: %v, %v", in, v, e)
		}
	}
}

// table is what a literal means: bit i its value where input k is bit k of i.
func table(t *testing.T, g *aig.Graph, l, n int) uint64 {
	t.Helper()
	var bits uint64
	in := make([]bool, n)
	for i := range 1 << n {
		for k := range in {
			in[k] = i>>k&1 > 0
		}
		v, e := g.Eval(l, in)
		if e != api.OK {
			t.Fatalf("P8.4: Eval(%d): %v", l, e)
		}
		if v {
			bits |= 1 << i
		}
	}
	return bits
}

// TestMeaning: the literals stand for what their names say, of all literals of a graph.
func TestMeaning(t *testing.T) {
	const n = 4
	all := uint64(1<<(1<<n) - 1)
	for seed := range int64(40) {
		source := rand.New(rand.NewSource(seed))
		g := inputs(t, 1000, n)
		means := map[int]uint64{0: 0, 1: all}
		literals := []int{0, 1}
		learn := func(l int, e api.Errno, meaning uint64) {
			t.Helper()
			if e != api.OK {
				t.Fatalf("P8.5: %v", e)
			}
			for _, x := range [][2]uint64{{uint64(l), meaning}, {uint64(l) ^ 1, ^meaning & all}} {
				k := int(x[0])
				if old, ok := means[k]; ok && old != x[1] {
					t.Fatalf("P8.5: literal %d means %x and %x", k, old, x[1])
				} else if !ok {
					means[k] = x[1]
					literals = append(literals, k)
				}
			}
		}
		for i := range n {
			learn(2*(i+1), api.OK, table(t, g, 2*(i+1), n))
		}
		pick := func() int { return literals[source.Intn(len(literals))] }
		for range 30 {
			a, b, c := pick(), pick(), pick()
			l, e := g.And(a, b)
			learn(l, e, means[a]&means[b])
			l, e = g.Or(a, b)
			learn(l, e, means[a]|means[b])
			l, e = g.Xor(a, b)
			learn(l, e, means[a]^means[b])
			l, e = g.Mux(c, a, b)
			learn(l, e, means[c]&means[a]|^means[c]&means[b]&all)
		}
		for l, meaning := range means {
			if got := table(t, g, l, n); got != meaning {
				t.Fatalf("P8.5: literal %d is %x; should be %x", l, got, meaning)
			}
		}
	}
}

// checkForm asks for P8.5's form of all ands.
func checkForm(t *testing.T, g *aig.Graph) int {
	t.Helper()
	seen := map[[2]int]int{}
	for n := 1; n <= g.Nodes(); n++ {
		a, b, ok := g.Kids(n)
		if !ok {
			continue
		}
		if twin := seen[[2]int{a, b}]; twin > 0 {
			t.Fatalf("P8.5: ands %d and %d have the kids %d, %d", twin, n, a, b)
		}
		seen[[2]int{a, b}] = n
		if a < 2 || a >= b || a^1 == b || b/2 >= n {
			t.Fatalf("P8.5: and %d has the kids %d, %d", n, a, b)
		}
	}
	return len(seen)
}

func TestFormOfAnds(t *testing.T) {
	ands := 0
	for seed := range int64(30) {
		source := rand.New(rand.NewSource(seed))
		g := inputs(t, 3000, 3)
		for range 600 {
			l := func() int { return source.Intn(2*g.Nodes() + 2) }
			g.And(l(), l())
			g.Or(l(), l())
			g.Xor(l(), l())
			g.Mux(l(), l(), l())
		}
		ands += checkForm(t, g)
	}
	if ands < 10000 {
		t.Errorf("only %d ands", ands)
	}
}

func TestGraphsDontTouchOneAnother(t *testing.T) {
	g, h := inputs(t, 100, 3), inputs(t, 100, 2)
	g.And(2, 4)
	l, e := h.And(3, 5)
	want(t, "P8.2: And of another graph", l, e, 6, api.OK)
	l, e = g.And(3, 5)
	want(t, "P8.2: And", l, e, 10, api.OK)
	if g.Nodes() != 5 || h.Nodes() != 3 || !slices.Equal(h.Inputs(), []int{2, 4}) {
		t.Errorf("P8.1: %d and %d nodes", g.Nodes(), h.Nodes())
	}
}

func TestAnswersAreNewMemory(t *testing.T) {
	g := inputs(t, 100, 3)
	and, _ := g.And(2, 4)
	for _, ask := range []func() []int{g.Inputs, func() []int { return g.Cone(and) }} {
		l := ask()
		whole := slices.Clone(l)
		for i := range l {
			l[i] = -1
		}
		_ = append(l, -1)
		if again := ask(); !slices.Equal(again, whole) {
			t.Errorf("P8.1: %v; should be %v", again, whole)
		}
	}
	old := g.Inputs()
	_ = append(old, -1)
	g.Input()
	if l := g.Inputs(); !slices.Equal(l, []int{2, 4, 6, 10}) || !slices.Equal(old, []int{2, 4, 6}) {
		t.Errorf("P8.1: %v, and before %v", l, old)
	}
}

func TestEvalLeavesItsValues(t *testing.T) {
	g := inputs(t, 100, 2)
	xor, _ := g.Xor(2, 4)
	room := []bool{true, false, true, true, false}
	kept := slices.Clone(room)
	for l := range xor + 1 {
		g.Eval(l, room[:2])
		g.Eval(l, room[1:4])
	}
	if !slices.Equal(room, kept) {
		t.Errorf("P8.4: %v became %v", kept, room)
	}
	before := g.Nodes()
	g.Cone(xor)
	if v, e := g.Eval(xor, room[:2]); !v || e != api.OK || g.Nodes() != before {
		t.Errorf("P8.4: %v, %v, %d nodes", v, e, g.Nodes())
	}
}

// A graph as great and as deep as can be: a chain of ands.
func TestGreatestGraph(t *testing.T) {
	g := inputs(t, math.MaxInt, 2)
	l := 2
	for i := g.Nodes(); i < api.MaxGraph; i++ {
		next, e := g.And(l^1, 4+i&1)
		if e != api.OK || next != 2*(i+1) {
			t.Fatalf("P8.2: and %d: %d, %v", i+1, next, e)
		}
		l = next
	}
	if got, e := g.And(l, 4); got != 0 || e != api.ErrAigMany || g.Nodes() != api.MaxGraph {
		t.Errorf("P8.2: and %d: %d, %v, %d nodes", api.MaxGraph+1, got, e, g.Nodes())
	}
	if cone := g.Cone(l); len(cone) != api.MaxGraph || cone[0] != 1 || cone[api.MaxGraph-1] != api.MaxGraph {
		t.Errorf("P8.4: a cone of %d nodes", len(cone))
	}
	checkForm(t, g)
	for i := range 4 {
		in := []bool{i&1 > 0, i&2 > 0}
		want := in[0]
		for n := 2; n < api.MaxGraph; n++ {
			want = !want && (in[1] != (n&1 > 0))
		}
		if v, e := g.Eval(l, in); v != want || e != api.OK {
			t.Errorf("P8.4: under %v: %v, %v; should be %v", in, v, e, want)
		}
	}
}
