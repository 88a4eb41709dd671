package blast_test

import (
	"math"
	"slices"
	"strconv"
	"testing"

	"plait/aig"
	"plait/api"
	"plait/blast"
	"plait/term"
)

func TestExamples(t *testing.T) {
	b := newBench(t, api.MaxGraph)
	x, y := b.variable("x", 2), b.variable("y", 2)
	and, xor := b.two(api.OpBvAnd, x, y), b.two(api.OpBvXor, x, x)
	l := b.bits(and)
	if b.ands() != 2 || l[0] == l[1] {
		t.Errorf("(bvand x y): %v, %d ands", l, b.ands())
	}
	u, _ := b.Var("x")
	v, _ := b.Var("y")
	for i, c := range l {
		k, m, ok := b.graph.Kids(c >> 1)
		if c&1 == 1 || !ok || min(u[i], v[i]) != k || max(u[i], v[i]) != m {
			t.Errorf("(bvand x y): bit %d, %d: kids %d, %d, %v, of %v and %v", i, c, k, m, ok, u, v)
		}
	}
	b.checkMeaning(map[int][]int{xor: b.bits(xor)}, assignments(api.Param{Name: "x", Sort: 2}, api.Param{Name: "y", Sort: 2}))
}

func TestNoSuchNode(t *testing.T) {
	b := newBench(t, 3)
	for range 2 {
		for _, id := range []int{math.MinInt, -1, 0, b.terms.Len() + 1, b.terms.Len() + 2, api.MaxTerms + 1, math.MaxInt} {
			if l, e := b.Term(id); len(l) > 0 || e != api.ErrBlastNone {
				t.Errorf("P9.1: Term(%d) of %d nodes: %v, %v", id, b.terms.Len(), l, e)
			}
		}
		// The second time the graph is full: that is asked behind.
		if len(b.Names()) != 0 || b.terms.Len() == 0 && b.graph.Nodes() != 0 {
			t.Errorf("P9.1: names %v, %d nodes", b.Names(), b.graph.Nodes())
		}
		if _, e := b.Term(b.variable("x", 4)); e != api.ErrAigMany {
			t.Errorf("P9.1: four inputs in three nodes: %v", e)
		}
	}
}

func TestTermsMadeBehindNew(t *testing.T) {
	b := newBench(t, api.MaxGraph)
	if _, e := b.Term(1); e != api.ErrBlastNone {
		t.Errorf("P9.1: %v", e)
	}
	if v, ok := b.Var("x"); ok || len(v) > 0 {
		t.Errorf("P9.1: Var ahead of all: %v, %v", v, ok)
	}
	x := b.variable("x", 3)
	first := b.bits(x)
	y := b.variable("y", 3)
	told := b.told([]int{b.two(api.OpBvMul, x, y), b.two(api.OpSlt, y, x), x, y})
	if !slices.Equal(told[x], first) {
		t.Errorf("P9.3: x: %v, then %v", first, told[x])
	}
	b.checkMeaning(told, assignments(api.Param{Name: "x", Sort: 3}, api.Param{Name: "y", Sort: 3}))
	b.checkInputs()
}

func TestVarAndNames(t *testing.T) {
	b := newBench(t, api.MaxGraph)
	x, y, p, q := b.variable("x", 5), b.variable("y", 128), b.variable("p", 0), b.variable("q", 0)
	check := func(names ...string) {
		t.Helper()
		got := b.Names()
		for _, name := range []string{"x", "y", "p", "q", "z", "", "X"} {
			v, ok := b.Var(name)
			if ok != slices.Contains(names, name) || !ok && len(v) > 0 {
				t.Errorf("P9.1: Var(%q): %v, %v", name, v, ok)
			}
		}
		slices.Sort(got)
		slices.Sort(names)
		if !slices.Equal(got, names) {
			t.Errorf("P9.1: names %v; should be %v", b.Names(), names)
		}
		b.checkInputs()
	}
	check()
	b.bits(b.constant(value(8, 77, 0)))
	check()
	if b.graph.Nodes() != 0 {
		t.Errorf("P9.1: a constant has %d nodes", b.graph.Nodes())
	}
	b.bits(q)
	check("q")
	// Its value doesn't hang on p, but it has it.
	b.bits(b.node(api.Node{Op: api.OpIte, A: p, B: q, C: q}))
	check("q", "p")
	if names := b.Names(); !slices.Equal(names, []string{"q", "p"}) {
		t.Errorf("P9.1: %v", names)
	}
	b.bits(b.two(api.OpBvSub, x, x))
	check("q", "p", "x")
	b.bits(b.two(api.OpBvXor, y, y))
	check("q", "p", "x", "y")
	if names := b.Names(); !slices.Equal(names, []string{"q", "p", "x", "y"}) {
		t.Errorf("P9.1: %v", names)
	}
	for _, x := range []struct {
		name string
		id   int
	}{{"x", x}, {"y", y}, {"p", p}, {"q", q}} {
		v, _ := b.Var(x.name)
		if l := b.bits(x.id); !slices.Equal(v, l) {
			t.Errorf("P9.1: Var(%q): %v; Term: %v", x.name, v, l)
		}
	}
}

func TestAgain(t *testing.T) {
	b := newBench(t, api.MaxGraph)
	x, y := b.variable("x", 4), b.variable("y", 4)
	ids := append(b.applied(x, y, true), x, y)
	first := b.told(ids)
	nodes := b.graph.Nodes()
	slices.Reverse(ids)
	for _, id := range ids {
		if l := b.bits(id); !slices.Equal(l, first[id]) {
			t.Errorf("P9.3: Term(%d): %v, then %v", id, first[id], l)
		}
	}
	if b.graph.Nodes() != nodes {
		t.Errorf("P9.3: %d nodes, then %d", nodes, b.graph.Nodes())
	}
}

// Rule 8 of DOC.md: two blasters that are told the same tell the same, and don't touch one another.
func TestTwoBlasters(t *testing.T) {
	b := newBench(t, api.MaxGraph)
	ids := b.applied(b.variable("x", 4), b.variable("y", 4), true)
	other := bench{t, b.terms, aig.New(api.MaxGraph), nil}
	other.Blaster = blast.New(other.terms, other.graph)
	for _, id := range ids {
		l := b.bits(id)
		if m := other.bits(id); !slices.Equal(l, m) {
			t.Errorf("Term(%d): %v; of another blaster: %v", id, l, m)
		}
	}
	if b.graph.Nodes() != other.graph.Nodes() || !slices.Equal(b.Names(), other.Names()) {
		t.Errorf("%d nodes, %v; of another blaster: %d, %v", b.graph.Nodes(), b.Names(), other.graph.Nodes(), other.Names())
	}
}

// Rule 3 of DOC.md: what is answered is new memory, up to its capacity.
func TestAnswersAreNewMemory(t *testing.T) {
	b := newBench(t, api.MaxGraph)
	x, y := b.variable("x", 6), b.variable("y", 6)
	ids := append(b.applied(x, y, true), x, y)
	told := map[int][]int{}
	for _, id := range ids {
		l := b.bits(id)
		told[id] = slices.Clone(l)
		spoil(l)
		v, _ := b.Var("x")
		spoil(v)
		names := b.Names()
		names = names[:cap(names)]
		for i := range names {
			names[i] = "spoilt"
		}
	}
	for id, l := range told {
		if again := b.bits(id); !slices.Equal(again, l) {
			t.Errorf("P9.3: Term(%d): %v, then %v", id, l, again)
		}
	}
	b.checkMeaning(told, edgeAssignments(6))
	b.checkInputs()
	if names := b.Names(); !slices.Equal(names, []string{"x", "y"}) {
		t.Errorf("P9.1: %v", names)
	}
}

func spoil(l []int) {
	l = l[:cap(l)]
	for i := range l {
		l[i] = 1
	}
}

// A graph that has inputs and ands ahead of New.
func TestGraphWithNodes(t *testing.T) {
	g, a := term.New(api.MaxTerms), aig.New(api.MaxGraph)
	for range 3 {
		a.Input()
	}
	a.And(2, 4)
	a.Xor(5, 6)
	before := a.Nodes()
	b := &bench{t, g, a, blast.New(g, a)}
	x, y := b.variable("x", 3), b.variable("y", 3)
	told := b.told(b.applied(x, y, true))
	b.checkMeaning(told, assignments(api.Param{Name: "x", Sort: 3}, api.Param{Name: "y", Sort: 3}))
	if l := b.inputs(); len(l) != 6 || !slices.Equal(l, a.Inputs()[3:]) || slices.Min(l) <= 2*before {
		t.Errorf("P9.1: inputs %v; of the graph %v", l, a.Inputs())
	}
}

// A term of as many parts as there may be, each made of the one ahead of it.
func TestDeepTerms(t *testing.T) {
	b := newBench(t, api.MaxGraph)
	x, id := b.variable("x", 1), b.variable("y", 1)
	for b.terms.Len() < api.MaxTerms-1 {
		if b.terms.Len()%2 == 0 {
			id = b.node(api.Node{Op: api.OpBvNot, A: id})
		} else {
			id = b.two(api.OpBvSub, id, x)
		}
	}
	told := b.told([]int{id})
	b.checkMeaning(told, assignments(api.Param{Name: "x", Sort: 1}, api.Param{Name: "y", Sort: 1}))
}

// As many variables as there may be.
func TestManyVariables(t *testing.T) {
	b := newBench(t, api.MaxGraph)
	var names []string
	for i := range api.MaxTerms {
		names = append(names, "v"+strconv.Itoa(i))
		b.variable(names[i], i%9)
	}
	for i := range names {
		b.bits(i + 1)
	}
	if !slices.Equal(b.Names(), names) {
		t.Error("P9.1: Names")
	}
	b.checkInputs()
}
