package cnf_test

import (
	"math"
	"math/rand"
	"reflect"
	"slices"
	"testing"

	"plait/aig"
	"plait/api"
	"plait/cnf"
)

// sortedClauses tells clauses with their literals in order, and in order themselves.
func sortedClauses(l [][]int) [][]int {
	out := [][]int{}
	for _, c := range l {
		out = append(out, slices.Sorted(slices.Values(c)))
	}
	slices.SortFunc(out, slices.Compare)
	return out
}

func wantClauses(t *testing.T, what string, got [][]int, want ...[]int) {
	t.Helper()
	if !reflect.DeepEqual(sortedClauses(got), sortedClauses(want)) {
		t.Errorf("%s: %v; should be %v", what, got, want)
	}
}

func TestExamples(t *testing.T) {
	b := newBench(t, 2, 1)
	b.and(2, 4)
	r, clauses := b.root(6)
	x, _ := b.e.Of(1)
	y, _ := b.e.Of(2)
	if n, ok := b.e.Of(3); n != r || !ok || r < 0 {
		t.Errorf("P10.1: Of(3): %d, %v; Root(6): %d", n, ok, r)
	}
	wantClauses(t, "P10.2: Root(6)", clauses, []int{-r, x}, []int{-r, y})
	n, clauses := b.root(7)
	if n != -r {
		t.Errorf("P10.2: Root(7): %d; should be %d", n, -r)
	}
	wantClauses(t, "P10.2: Root(7)", clauses, []int{r, -x, -y})
	for _, l := range []int{6, 7} {
		_, clauses = b.root(l)
		wantClauses(t, "P10.3: the same again", clauses)
	}
}

// Turned edges: (not x) and y, and what is asked of it turned.
func TestTurnedKids(t *testing.T) {
	b := newBench(t, 2, 1)
	l := b.and(3, 4)
	r, clauses := b.root(l ^ 1)
	x, _ := b.e.Of(1)
	y, _ := b.e.Of(2)
	wantClauses(t, "P10.2: turned", clauses, []int{-r, x, -y})
	r, clauses = b.root(l)
	wantClauses(t, "P10.2: not turned", clauses, []int{-r, -x}, []int{-r, y})
}

// Below a turned edge the polarity is the other one: of or(x, and(y, z)) the inner and needs two clauses, of its opposite one.
func TestPolarityTurns(t *testing.T) {
	b := newBench(t, 3, 1)
	inner := b.and(4, 6)
	outer := b.and(3, inner^1)
	r, clauses := b.root(outer ^ 1)
	x, _ := b.e.Of(1)
	y, _ := b.e.Of(2)
	z, _ := b.e.Of(3)
	i, _ := b.e.Of(inner / 2)
	wantClauses(t, "P10.2: an or", clauses, []int{-r, x, i}, []int{-i, y}, []int{-i, z})
	r, clauses = b.root(outer)
	wantClauses(t, "P10.2: an or turned", clauses, []int{-r, -x}, []int{-r, -i}, []int{i, -y, -z})
}

func TestConstant(t *testing.T) {
	for _, order := range [][]int{{0, 1}, {1, 0}, {0}, {1}, {0, 0, 1, 1}} {
		b := newBench(t, 0, 5)
		if v, ok := b.e.Of(0); v != 0 || ok {
			t.Errorf("P10.1: Of(0) at first: %d, %v", v, ok)
		}
		for _, l := range order {
			r, _ := b.root(l)
			if !slices.ContainsFunc(b.clauses, func(c []int) bool { return len(c) == 1 && c[0] == r*(2*l-1) }) {
				t.Errorf("P10.2: Root(%d): %d, clauses %v", l, r, b.clauses)
			}
		}
		if v, ok := b.e.Of(0); len(b.clauses) != 1 || b.e.Vars() != 5 || v != 5 || !ok {
			t.Errorf("P10.3: clauses %v, Vars %d, Of(0): %d, %v", b.clauses, b.e.Vars(), v, ok)
		}
	}
}

// Of and Vars: an input has a variable when a root's cone has it, not sooner.
func TestVariablesComeWithTheCone(t *testing.T) {
	b := newBench(t, 3, 1)
	l := b.and(2, 4)
	b.and(l, 6)
	if b.e.Vars() != 0 || slices.Max(b.names()) != 0 {
		t.Errorf("P10.1: at first: Vars %d, nodes have %v", b.e.Vars(), b.names())
	}
	if r, clauses := b.root(3); len(clauses) != 0 || r != -1 || b.e.Vars() != 1 {
		t.Errorf("P10.2: an input turned: %d, %v, Vars %d", r, clauses, b.e.Vars())
	}
	b.root(l)
	for n, want := range []bool{false, true, true, false, true, false} {
		if v, ok := b.e.Of(n); ok != want || v > b.e.Vars() {
			t.Errorf("P10.1: Of(%d): %d, %v; should be %v", n, v, ok, want)
		}
	}
	for _, n := range []int{-1, math.MinInt, 6, 7, math.MaxInt} {
		if v, ok := b.e.Of(n); v != 0 || ok {
			t.Errorf("P10.1: Of(%d): %d, %v", n, v, ok)
		}
	}
	if b.e.Vars() != 3 || b.g.Nodes() != 5 {
		t.Errorf("P10.1: Vars %d, %d nodes", b.e.Vars(), b.g.Nodes())
	}
}

func TestNoLiteral(t *testing.T) {
	b := newBench(t, 2, 1)
	for range 2 {
		for _, l := range []int{-1, -2, -6, math.MinInt, math.MinInt + 1, 6, 7, 8, math.MaxInt, math.MaxInt - 1} {
			b.refused(l, api.ErrCnfLit)
		}
		b.root(4)
	}
	b.and(2, 4)
	b.root(6)
	b.root(7)
	b.refused(8, api.ErrCnfLit)
	full := newBench(t, 1, api.MaxVars+1)
	full.refused(4, api.ErrCnfLit)
	full.refused(-1, api.ErrCnfLit)
	full.refused(2, api.ErrCnfVars)
}

func TestFirst(t *testing.T) {
	for _, x := range []struct{ first, vars int }{
		{math.MinInt, 0}, {-1, 0}, {0, 0}, {1, 0}, {2, 1}, {700, 699},
		{api.MaxVars - 1, api.MaxVars - 2}, {api.MaxVars, api.MaxVars - 1},
	} {
		b := newBench(t, 1, x.first)
		if b.e.Vars() != x.vars {
			t.Errorf("P10.1: New with first %d: Vars %d; should be %d", x.first, b.e.Vars(), x.vars)
		}
		if r, _ := b.root(2); r != x.vars+1 || b.e.Vars() != x.vars+1 {
			t.Errorf("P10.1: New with first %d: Root(2): %d, Vars %d", x.first, r, b.e.Vars())
		}
		f := cnf.New(b.g, x.first)
		if v, err := f.Fresh(); v != x.vars+1 || err != api.OK || f.Vars() != v {
			t.Errorf("P10.1: New with first %d: Fresh: %d, %v", x.first, v, err)
		}
	}
	for _, first := range []int{api.MaxVars + 1, api.MaxVars + 2, math.MaxInt} {
		b := newBench(t, 2, first)
		b.and(2, 4)
		for l := range 8 {
			b.refused(l, api.ErrCnfVars)
		}
		if v, err := b.e.Fresh(); v != 0 || err != api.ErrCnfVars || b.e.Vars() != first-1 {
			t.Errorf("P10.1: New with first %d: Fresh: %d, %v, Vars %d", first, v, err, b.e.Vars())
		}
	}
}

func TestFreshToTheLast(t *testing.T) {
	b := newBench(t, 1, 1)
	for i := range api.MaxVars {
		if v, err := b.e.Fresh(); v != i+1 || err != api.OK || b.e.Vars() != v {
			t.Fatalf("P10.1: Fresh %d: %d, %v, Vars %d", i, v, err, b.e.Vars())
		}
	}
	for range 2 {
		if v, err := b.e.Fresh(); v != 0 || err != api.ErrCnfVars || b.e.Vars() != api.MaxVars {
			t.Errorf("P10.1: Fresh of a full encoder: %d, %v, Vars %d", v, err, b.e.Vars())
		}
		b.refused(0, api.ErrCnfVars)
		b.refused(2, api.ErrCnfVars)
	}
}

// Each room from none up to what a root needs: it is refused just below, and what is refused changes nothing.
func TestEachRoom(t *testing.T) {
	const top = 13 // nodes of the graph below; the last one is made of all
	for room := range top + 2 {
		b := newBench(t, 4, api.MaxVars+1-room)
		last := 2
		for i := range 9 {
			last = b.and(last^1, 2+(2*i+2)%8)
		}
		if b.g.Nodes() != top {
			t.Fatalf("%d nodes", b.g.Nodes())
		}
		if room < top {
			b.refused(last, api.ErrCnfVars)
			b.refused(last^1, api.ErrCnfVars)
		}
		// Lesser ones still have the room that the refused one didn't take.
		for l := 2; l <= last; l++ {
			if used := len(cone(b.g, l)); used > room {
				b.refused(l, api.ErrCnfVars)
				continue
			}
			b.root(l)
			if b.e.Vars() > api.MaxVars {
				t.Errorf("P10.2: room %d: Vars %d", room, b.e.Vars())
			}
		}
		b.checkForm()
		// Full or not: what was told can be asked again, and its opposite needs no variable.
		for _, x := range slices.Clone(b.roots) {
			if r, clauses := b.root(x.l); r != x.r || len(clauses) != 0 {
				t.Errorf("P10.3: room %d: Root(%d): %d, %v", room, x.l, r, clauses)
			}
			if r, _ := b.root(x.l ^ 1); r != -x.r {
				t.Errorf("P10.2: room %d: Root(%d): %d", room, x.l^1, r)
			}
		}
	}
}

// cone tells the nodes that have a variable behind all roots up to l.
func cone(g *aig.Graph, l int) []int {
	in := map[int]bool{}
	for x := 2; x <= l; x++ {
		for _, n := range g.Cone(x) {
			in[n] = true
		}
	}
	var out []int
	for n := range in {
		out = append(out, n)
	}
	return out
}

// Behind a refusal an encoder tells what one tells that was never refused.
func TestRefusalLeavesNothing(t *testing.T) {
	r := rand.New(rand.NewSource(13))
	for range 100 {
		b := newBench(t, 3, 1)
		b.chance(r, 12)
		room := 1 + r.Intn(b.g.Nodes()+1)
		e, f := cnf.New(b.g, api.MaxVars+1-room), cnf.New(b.g, api.MaxVars+1-room)
		for range 20 {
			l := r.Intn(2*b.g.Nodes() + 2)
			x, clauses, err := e.Root(l)
			if err != api.OK {
				continue
			}
			y, same, err := f.Root(l)
			if x != y || err != api.OK || !reflect.DeepEqual(clauses, same) {
				t.Fatalf("P10.2: Root(%d): %d, %v; without refusals %d, %v, %v", l, x, clauses, y, same, err)
			}
		}
		if e.Vars() != f.Vars() {
			t.Errorf("P10.2: Vars %d; without refusals %d", e.Vars(), f.Vars())
		}
	}
}

// Encoders of one graph don't touch one another, and leave the graph as it is.
func TestEncodersAreApart(t *testing.T) {
	b := newBench(t, 3, 1)
	b.chance(rand.New(rand.NewSource(14)), 20)
	nodes := b.g.Nodes()
	other := cnf.New(b.g, 1)
	alone := [][]int{}
	for l := 2; l < 2*nodes+2; l += 3 {
		b.root(l)
		_, clauses, _ := cnf.New(b.g, 1).Root(l)
		alone = append(alone, clauses...)
	}
	if other.Vars() != 0 || b.g.Nodes() != nodes || len(alone) == 0 {
		t.Errorf("Vars %d, %d nodes, were %d", other.Vars(), b.g.Nodes(), nodes)
	}
	var same [][]int
	for l := 2; l < 2*nodes+2; l += 3 {
		_, clauses, _ := other.Root(l)
		same = append(same, clauses...)
	}
	if !reflect.DeepEqual(same, b.clauses) {
		t.Errorf("one encoder told %v, another one %v", b.clauses, same)
	}
}

// What is answered is new memory.
func TestAnswersAreNew(t *testing.T) {
	b := newBench(t, 3, 1)
	l := b.and(b.and(2, 4), 6)
	_, clauses, _ := b.e.Root(l)
	kept := make([][]int, len(clauses))
	for i := range clauses {
		kept[i] = slices.Clone(clauses[i])
	}
	for i := range clauses {
		grown := append(clauses[i], 99)
		grown[len(grown)-1] = 98
	}
	if !reflect.DeepEqual(clauses, kept) {
		t.Errorf("clauses share memory: %v, were %v", clauses, kept)
	}
	for i := range clauses {
		clear(clauses[i])
	}
	clear(clauses)
	r, clauses := b.root(l ^ 1)
	i, _ := b.e.Of(4)
	z, _ := b.e.Of(3)
	x, _ := b.e.Of(1)
	y, _ := b.e.Of(2)
	wantClauses(t, "P10.2: behind spoiled answers", clauses, []int{-r, -i, -z}, []int{i, -x, -y})
}

// The greatest graph, as one chain: the deepest there can be; in both polarities.
func TestGreatestGraph(t *testing.T) {
	b := newBench(t, 2, api.MaxVars+1-api.MaxGraph)
	last := b.and(2, 4)
	for b.g.Nodes() < api.MaxGraph {
		last = b.and(last^1, 2+2*(b.g.Nodes()%2)^b.g.Nodes()/2%2)
	}
	ands := api.MaxGraph - 2
	b.root(last)
	b.root(last ^ 1)
	if len(b.clauses) != 3*ands || b.e.Vars() != api.MaxVars {
		t.Errorf("P10.3: %d clauses of %d ands, Vars %d", len(b.clauses), ands, b.e.Vars())
	}
	b.refused(1, api.ErrCnfVars)
	if r, clauses := b.root(last); r <= 0 || len(clauses) != 0 {
		t.Errorf("P10.3: %d, %v", r, clauses)
	}
}

// A root that shares a told cone asks for what is new alone, however great the rest is.
func TestSharedCones(t *testing.T) {
	b := newBench(t, 3, 1)
	shared := b.and(b.and(2, 4), 6)
	b.root(shared)
	more := b.and(shared, b.and(3, 4))
	r, clauses := b.root(more)
	s, _ := b.e.Of(shared / 2)
	n, _ := b.e.Of(more/2 - 1)
	x, _ := b.e.Of(1)
	y, _ := b.e.Of(2)
	wantClauses(t, "P10.3: what is new", clauses, []int{-r, s}, []int{-r, n}, []int{-n, -x}, []int{-n, y})
}
