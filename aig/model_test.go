package aig_test

import (
	"math"
	"math/rand"
	"slices"
	"testing"

	"plait/aig"
	"plait/api"
)

// model: the chapter's sentences, written down once more, without haste: ands are looked for one by one.
type model struct {
	most  int
	nodes []modelNode // node 1 first
}

type modelNode struct {
	and  bool
	a, b int
}

func newModel(most int) *model {
	if most < 1 {
		most = 1
	}
	if most > api.MaxGraph {
		most = api.MaxGraph
	}
	return &model{most: most}
}

func (m *model) isLiteral(l int) bool { return l >= 0 && l <= 2*len(m.nodes)+1 }

func turned(l int) int {
	if l%2 == 0 {
		return l + 1
	}
	return l - 1
}

func (m *model) add(n modelNode) (int, api.Errno) {
	if len(m.nodes) >= m.most {
		return 0, api.ErrAigMany
	}
	m.nodes = append(m.nodes, n)
	return 2 * len(m.nodes), api.OK
}

func (m *model) input() (int, api.Errno) { return m.add(modelNode{}) }

func (m *model) and(a, b int) (int, api.Errno) {
	if !m.isLiteral(a) || !m.isLiteral(b) {
		return 0, api.ErrAigLit
	}
	if a > b {
		a, b = b, a
	}
	if a == 0 || b == turned(a) {
		return 0, api.OK
	}
	if a == 1 || a == b {
		return b, api.OK
	}
	wanted := modelNode{and: true, a: a, b: b}
	for i, n := range m.nodes {
		if n == wanted {
			return 2 * (i + 1), api.OK
		}
	}
	return m.add(wanted)
}

func (m *model) or(a, b int) (int, api.Errno) {
	if !m.isLiteral(a) || !m.isLiteral(b) {
		return 0, api.ErrAigLit
	}
	l, e := m.and(turned(a), turned(b))
	if e != api.OK {
		return 0, e
	}
	return turned(l), api.OK
}

// either is Or of two Ands, made in their order.
func (m *model) either(a, b, c, d int) (int, api.Errno) {
	for _, l := range []int{a, b, c, d} {
		if !m.isLiteral(l) {
			return 0, api.ErrAigLit
		}
	}
	l, e := m.and(a, b)
	if e != api.OK {
		return 0, e
	}
	k, e := m.and(c, d)
	if e != api.OK {
		return 0, e
	}
	return m.or(l, k)
}

func (m *model) xor(a, b int) (int, api.Errno) {
	if !m.isLiteral(a) || !m.isLiteral(b) {
		return 0, api.ErrAigLit
	}
	return m.either(a, turned(b), turned(a), b)
}

func (m *model) mux(c, a, b int) (int, api.Errno) {
	if !m.isLiteral(c) {
		return 0, api.ErrAigLit
	}
	return m.either(c, a, turned(c), b)
}

func (m *model) inputs() []int {
	var l []int
	for i, n := range m.nodes {
		if !n.and {
			l = append(l, 2*(i+1))
		}
	}
	return l
}

func (m *model) kids(n int) (int, int, bool) {
	if n < 1 || n > len(m.nodes) {
		return 0, 0, false
	}
	k := m.nodes[n-1]
	return k.a, k.b, k.and
}

// value is a literal's, of its parts' values, from the top down.
func (m *model) value(l int, in map[int]bool) bool {
	if l%2 == 1 {
		return !m.value(l-1, in)
	}
	if l == 0 {
		return false
	}
	if n := m.nodes[l/2-1]; n.and {
		return m.value(n.a, in) && m.value(n.b, in)
	}
	return in[l]
}

func (m *model) collect(l int, into map[int]bool) {
	n := l / 2
	if n == 0 || into[n] {
		return
	}
	into[n] = true
	if k := m.nodes[n-1]; k.and {
		m.collect(k.a, into)
		m.collect(k.b, into)
	}
}

func (m *model) cone(l int) []int {
	if !m.isLiteral(l) {
		return nil
	}
	into := map[int]bool{}
	m.collect(l, into)
	var cone []int
	for n := range into {
		cone = append(cone, n)
	}
	slices.Sort(cone)
	return cone
}

// literal is one of the graph's, of false and true, or none at all.
func (m *model) literal(source *rand.Rand) int {
	none := []int{-1, -2, math.MinInt, math.MinInt + 1, 2*len(m.nodes) + 2, 2*len(m.nodes) + 3, math.MaxInt, math.MaxInt - 1}
	switch source.Intn(30) {
	case 0:
		return none[source.Intn(len(none))]
	case 1, 2:
		return source.Intn(2)
	}
	return source.Intn(2*len(m.nodes) + 2)
}

type answer struct {
	l int
	e api.Errno
}

func told(l int, e api.Errno) answer { return answer{l, e} }

// step makes the same of both, and holds their answers against one another.
func step(t *testing.T, source *rand.Rand, g *aig.Graph, m *model) answer {
	t.Helper()
	a, b, c := m.literal(source), m.literal(source), m.literal(source)
	var got, want answer
	name := ""
	switch source.Intn(9) {
	case 0:
		name, got, want = "P8.1: Input", told(g.Input()), told(m.input())
	case 1, 2, 3:
		name, got, want = "P8.2: And", told(g.And(a, b)), told(m.and(a, b))
	case 4:
		name, got, want = "P8.3: Or", told(g.Or(a, b)), told(m.or(a, b))
	case 5, 6:
		name, got, want = "P8.3: Xor", told(g.Xor(a, b)), told(m.xor(a, b))
	default:
		name, got, want = "P8.3: Mux", told(g.Mux(c, a, b)), told(m.mux(c, a, b))
	}
	if got != want {
		t.Fatalf("%s of %d, %d (and %d ahead) in a graph of %d nodes: %v; should be %v", name, a, b, c, g.Nodes(), got, want)
	}
	if g.Nodes() != len(m.nodes) {
		t.Fatalf("%s of %d, %d (and %d ahead): %d nodes; should be %d", name, a, b, c, g.Nodes(), len(m.nodes))
	}
	return got
}

// alike holds all that can be asked of a graph against the model.
func alike(t *testing.T, g *aig.Graph, m *model) {
	t.Helper()
	if g.Nodes() != len(m.nodes) || !slices.Equal(g.Inputs(), m.inputs()) {
		t.Fatalf("P8.1: %d nodes, inputs %v; should be %d, %v", g.Nodes(), g.Inputs(), len(m.nodes), m.inputs())
	}
	for n := -2; n <= len(m.nodes)+2; n++ {
		a, b, ok := g.Kids(n)
		if x, y, and := m.kids(n); a != x || b != y || ok != and {
			t.Fatalf("P8.1: Kids(%d): %d, %d, %v; should be %d, %d, %v", n, a, b, ok, x, y, and)
		}
	}
	for l := -2; l <= 2*len(m.nodes)+3; l++ {
		if got, want := g.Cone(l), m.cone(l); !slices.Equal(got, want) {
			t.Fatalf("P8.4: Cone(%d): %v; should be %v", l, got, want)
		}
	}
}

// sameValues holds the values of all literals under some values of the inputs against the model.
func sameValues(t *testing.T, source *rand.Rand, g *aig.Graph, m *model) {
	t.Helper()
	inputs := m.inputs()
	in := make([]bool, len(inputs))
	by := map[int]bool{}
	for i, l := range inputs {
		in[i] = source.Intn(2) > 0
		by[l] = in[i]
	}
	for l := range 2*len(m.nodes) + 2 {
		v, e := g.Eval(l, in)
		if want := m.value(l, by); v != want || e != api.OK {
			t.Fatalf("P8.4: Eval(%d, %v): %v, %v; should be %v", l, in, v, e, want)
		}
	}
}

func TestGraphsByChance(t *testing.T) {
	errs := map[api.Errno]int{}
	for seed := range int64(600) {
		source := rand.New(rand.NewSource(seed))
		most := []int{-1, 0, 1, 2, 3, 5, 8, 13, 21, 30, 60}[seed%11]
		g, m := aig.New(most), newModel(most)
		for range 20 + source.Intn(80) {
			errs[step(t, source, g, m).e]++
		}
		alike(t, g, m)
		for range 4 {
			sameValues(t, source, g, m)
		}
	}
	if errs[api.OK] < 5000 || errs[api.ErrAigLit] < 500 || errs[api.ErrAigMany] < 500 {
		t.Errorf("only %v", errs)
	}
}
