package term_test

import (
	"maps"
	"math"
	"math/rand"
	"slices"
	"strconv"
	"testing"

	"plait/api"
	"plait/bv"
	"plait/term"
)

func variable(name string, sort int) api.Node { return api.Node{Op: api.OpVar, Sort: sort, Name: name} }

func constant(v api.Bits) api.Node { return api.Node{Op: api.OpConst, Sort: v.W, V: v} }

func mustMake(t *testing.T, g *term.Graph, n api.Node) int {
	t.Helper()
	id, e := g.Make(n)
	if e != api.OK {
		t.Fatalf("P3.2: Make(%+v): %v", n, e)
	}
	return id
}

// The reference of these tests: a list of nodes that is gone through, written from the chapter's words.

type reference struct {
	rows  map[int]*row
	most  int
	nodes []api.Node
}

func (r *reference) operandsStand(n api.Node) bool {
	arity := 0
	if r.rows[n.Op] != nil {
		arity = r.rows[n.Op].arity
	}
	for i, id := range []int{n.A, n.B, n.C} {
		if i < arity && (id < 1 || id > len(r.nodes)) || i >= arity && id != 0 {
			return false
		}
	}
	return true
}

func (r *reference) sort(n api.Node) (int, api.Errno) {
	l := []int{}
	for _, id := range []int{n.A, n.B, n.C}[:r.rows[n.Op].arity] {
		l = append(l, r.nodes[id-1].Sort)
	}
	return r.rows[n.Op].answer(n.P, n.Q, l)
}

func (r *reference) refuse(n api.Node) api.Errno {
	if r.rows[n.Op] == nil && n.Op != api.OpConst && n.Op != api.OpVar || !r.operandsStand(n) {
		return api.ErrTermOp
	}
	if n.V != (api.Bits{}) && n.Op != api.OpConst || n.Name != "" && n.Op != api.OpVar {
		return api.ErrTermOp
	}
	switch n.Op {
	case api.OpConst:
		if !bv.Right(n.V) || n.V.W != n.Sort || n.P != 0 || n.Q != 0 {
			return api.ErrTermSort
		}
	case api.OpVar:
		if n.Sort < 0 || n.Sort > api.MaxWidth || n.P != 0 || n.Q != 0 {
			return api.ErrTermSort
		}
		another := func(m api.Node) bool { return m.Op == api.OpVar && m.Name == n.Name && m.Sort != n.Sort }
		if n.Name == "" || slices.ContainsFunc(r.nodes, another) {
			return api.ErrTermName
		}
	default:
		_, e := r.sort(n)
		return e
	}
	return api.OK
}

func (r *reference) make(n api.Node) (int, api.Errno) {
	if e := r.refuse(n); e != api.OK {
		return 0, e
	}
	if r.rows[n.Op] != nil {
		n.Sort, _ = r.sort(n)
	}
	if i := slices.Index(r.nodes, n); i >= 0 {
		return i + 1, api.OK
	}
	if len(r.nodes) >= r.most {
		return 0, api.ErrTermMany
	}
	r.nodes = append(r.nodes, n)
	return len(r.nodes), api.OK
}

func (r *reference) vars() []int {
	var l []int
	for i, n := range r.nodes {
		if n.Op == api.OpVar {
			l = append(l, i+1)
		}
	}
	return l
}

func (r *reference) cone(id int) []int {
	in := map[int]bool{}
	var reach func(id int)
	reach = func(id int) {
		if id < 1 || id > len(r.nodes) || in[id] {
			return
		}
		in[id] = true
		n := r.nodes[id-1]
		reach(n.A)
		reach(n.B)
		reach(n.C)
	}
	reach(id)
	return slices.Sorted(maps.Keys(in))
}

// pair is a graph and its reference, told the same.
type pair struct {
	g *term.Graph
	r *reference
}

func newPair(most int) *pair {
	return &pair{term.New(most), &reference{rows: rows(), most: most}}
}

func (p *pair) checkMake(t *testing.T, n api.Node) api.Errno {
	t.Helper()
	want, wantErr := p.r.make(n)
	if got, e := p.g.Make(n); got != want || e != wantErr {
		t.Fatalf("P3.2: Make(%+v): %d, %v; should be %d, %v", n, got, e, want, wantErr)
	}
	if p.g.Len() != len(p.r.nodes) {
		t.Fatalf("P3.3: Len(): %d behind Make(%+v), should be %d", p.g.Len(), n, len(p.r.nodes))
	}
	return wantErr
}

// checkAll asks all that can be asked of the graph.
func (p *pair) checkAll(t *testing.T) {
	t.Helper()
	for i, want := range p.r.nodes {
		if got, ok := p.g.Node(i + 1); !ok || got != want {
			t.Fatalf("P3.3: Node(%d): %+v, %v; should be %+v", i+1, got, ok, want)
		}
		if id, ok := p.g.Var(want.Name); want.Op == api.OpVar && (!ok || id != i+1) {
			t.Fatalf("P3.3: Var(%q): %d, %v; should be %d", want.Name, id, ok, i+1)
		}
		if got := p.g.Cone(i + 1); !slices.Equal(got, p.r.cone(i+1)) {
			t.Fatalf("P3.3: Cone(%d): %v; should be %v", i+1, got, p.r.cone(i+1))
		}
	}
	if got := p.g.Vars(); !slices.Equal(got, p.r.vars()) {
		t.Fatalf("P3.3: Vars(): %v; should be %v", got, p.r.vars())
	}
	checkNone(t, p.g)
}

// checkNone asks the graph of what it hasn't.
func checkNone(t *testing.T, g *term.Graph) {
	t.Helper()
	for _, id := range []int{math.MinInt, -1, 0, g.Len() + 1, g.Len() + 2, 1 << 32, 1<<32 + 1, math.MaxInt} {
		if n, ok := g.Node(id); ok || n != (api.Node{}) {
			t.Fatalf("P3.3: Node(%d): %+v, %v", id, n, ok)
		}
		if l := g.Cone(id); len(l) != 0 {
			t.Fatalf("P3.3: Cone(%d): %v", id, l)
		}
	}
	for _, name := range []string{"", "no such name", "x\x00"} {
		if id, ok := g.Var(name); ok || id != 0 {
			t.Fatalf("P3.3: Var(%q): %d, %v", name, id, ok)
		}
	}
}

// furnish makes two Bools, words of 4, 4, 64 and 128 bits, and a constant.
func (p *pair) furnish(t *testing.T) {
	t.Helper()
	seven, _ := bv.New(4, 7, 0)
	for _, n := range []api.Node{
		variable("a", 0), variable("b", 0), variable("x", 4), variable("y", 4), variable("l", 64), variable("m", 128), constant(seven),
	} {
		if e := p.checkMake(t, n); e != api.OK {
			t.Fatalf("P3.2: Make(%+v): %v", n, e)
		}
	}
}

func TestExamples(t *testing.T) {
	g := term.New(api.MaxTerms)
	for i, n := range []api.Node{variable("x", 4), {Op: api.OpBvAdd, A: 1, B: 1}, {Op: api.OpConcat, A: 2, B: 2}} {
		for range 2 {
			if id := mustMake(t, g, n); id != i+1 {
				t.Errorf("P3.2: Make(%+v): %d", n, id)
			}
		}
	}
	if n, _ := g.Node(3); n != (api.Node{Op: api.OpConcat, Sort: 8, A: 2, B: 2}) {
		t.Errorf("P3.3: Node(3): %+v", n)
	}
	if _, e := g.Make(api.Node{Op: api.OpUlt, A: 1, B: 3}); e != api.ErrTermSort {
		t.Errorf("P3.2: OpUlt of 1 and 3: %v", e)
	}
	if _, e := g.Make(api.Node{Op: api.OpRepeat, A: 1, P: 33}); e != api.ErrTermWidth {
		t.Errorf("P3.2: OpRepeat of 1 by 33: %v", e)
	}
	if l := g.Cone(3); !slices.Equal(l, []int{1, 2, 3}) {
		t.Errorf("P3.3: Cone(3): %v", l)
	}
}

func TestEmptyGraph(t *testing.T) {
	p := newPair(5)
	p.checkAll(t)
	if p.g.Len() != 0 || len(p.g.Vars()) != 0 {
		t.Errorf("P3.3: an empty graph has %d nodes, variables %v", p.g.Len(), p.g.Vars())
	}
	for op := api.OpNot; op <= api.OpRepeat; op++ {
		for id := range 2 {
			if e := p.checkMake(t, api.Node{Op: op, A: id, B: id, C: id}); e != api.ErrTermOp {
				t.Errorf("P3.2: Make of operator %d of node %d: %v", op, id, e)
			}
		}
	}
}

func TestOperands(t *testing.T) {
	p := newPair(api.MaxTerms)
	p.furnish(t)
	ids := []int{math.MinInt, -1, 0, 1, 2, 3, 4, 5, 6, 7, 1<<32 + 1, math.MaxInt}
	for _, op := range operators() {
		for _, a := range ids {
			for _, b := range ids {
				for _, c := range ids {
					p.checkMake(t, api.Node{Op: op, A: a, B: b, C: c})
				}
			}
		}
		// Its own number is no node's yet.
		p.checkMake(t, api.Node{Op: op, A: p.g.Len() + 1})
	}
	p.checkAll(t)
}

func TestNumbersAndWrongParts(t *testing.T) {
	p := newPair(api.MaxTerms)
	p.furnish(t)
	numbers := []int{math.MinInt, -1, 0, 1, 2, 3, 4, 31, 32, 33, 124, 125, 1 << 62, math.MaxInt}
	for _, op := range operators() {
		n := api.Node{Op: op}
		for i, id := range []int{3, 4, 4}[:max(0, term.Arity(op))] {
			*[]*int{&n.A, &n.B, &n.C}[i] = id
		}
		for _, n.P = range numbers {
			for _, n.Q = range numbers {
				for _, n.Name = range []string{"", "x", "new"} {
					for _, n.V = range []api.Bits{{}, {Lo: 1}, {Hi: 1}, {W: 4}, {W: -1}} {
						p.checkMake(t, n)
					}
				}
			}
		}
	}
	p.checkAll(t)
}

func TestConstants(t *testing.T) {
	p := newPair(api.MaxTerms)
	sorts := []int{math.MinInt, -1, 0, 1, 4, 63, 64, 65, 127, 128, 129, math.MaxInt}
	halves := []uint64{0, 1, 2, 15, 16, 1<<63 - 1, 1 << 63, math.MaxUint64}
	for _, sort := range sorts {
		for _, w := range sorts {
			for _, lo := range halves {
				for _, hi := range halves {
					n := api.Node{Op: api.OpConst, Sort: sort, V: api.Bits{W: w, Lo: lo, Hi: hi}}
					p.checkMake(t, n)
				}
			}
		}
	}
	p.checkAll(t)
	for _, n := range []api.Node{
		{Op: api.OpConst, P: 1}, {Op: api.OpConst, Q: 1}, {Op: api.OpConst, P: -1, Q: 1}, {Op: api.OpConst, V: api.Bits{Lo: 2}},
		{Op: api.OpConst, Sort: 4, V: api.Bits{W: 4, Lo: 16}}, {Op: api.OpConst, Sort: 5, V: api.Bits{W: 4}}, {Op: api.OpConst, V: api.Bits{W: 4}},
	} {
		if e := p.checkMake(t, n); e != api.ErrTermSort {
			t.Errorf("P3.2: Make(%+v): %v", n, e)
		}
	}
	for _, n := range []api.Node{{Op: api.OpConst, A: 1}, {Op: api.OpConst, C: -1}, {Op: api.OpConst, Name: "x"}, {Op: api.OpConst, Sort: 3, P: 1, Name: "x"}} {
		if e := p.checkMake(t, n); e != api.ErrTermOp {
			t.Errorf("P3.2: Make(%+v): %v", n, e)
		}
	}
}

func TestVariables(t *testing.T) {
	p := newPair(api.MaxTerms)
	names := []string{"", "x", "X", "x ", "\x00", "\xff", "é", "|x y|", "true", "#b1"}
	for i, name := range names {
		p.checkMake(t, variable(name, i))
	}
	for sort := -1; sort <= api.MaxWidth+1; sort++ {
		for _, name := range append(names, "of "+strconv.Itoa(sort)) {
			p.checkMake(t, variable(name, sort))
		}
	}
	p.checkAll(t)
	for _, c := range []struct {
		n    api.Node
		want api.Errno
	}{
		{variable("x", 1), api.OK}, {variable("x", 2), api.ErrTermName}, {variable("x", 0), api.ErrTermName},
		{variable("", 0), api.ErrTermName}, {variable("", 4), api.ErrTermName}, {variable("", 129), api.ErrTermSort},
		{variable("x", 129), api.ErrTermSort}, {variable("x", -1), api.ErrTermSort}, {variable("x", math.MaxInt), api.ErrTermSort}, {variable("x", math.MinInt), api.ErrTermSort},
		{api.Node{Op: api.OpVar, Sort: 1, Name: "x", P: 1}, api.ErrTermSort}, {api.Node{Op: api.OpVar, Sort: 2, Name: "x", Q: 1}, api.ErrTermSort}, {api.Node{Op: api.OpVar, P: 1}, api.ErrTermSort},
		{api.Node{Op: api.OpVar, Sort: 1, Name: "x", V: api.Bits{W: 1}}, api.ErrTermOp}, {api.Node{Op: api.OpVar, Sort: 200, A: 1}, api.ErrTermOp}, {api.Node{Op: api.OpVar, Sort: 1, Name: "x", B: 1}, api.ErrTermOp},
	} {
		if e := p.checkMake(t, c.n); e != c.want {
			t.Errorf("P3.2: Make(%+v): %v, should be %v", c.n, e, c.want)
		}
	}
}

// The sort that is handed in counts for constants and variables alone.
func TestSortHandedIn(t *testing.T) {
	p := newPair(api.MaxTerms)
	p.furnish(t)
	for _, n := range []api.Node{{Op: api.OpNot, A: 1}, {Op: api.OpBvAdd, A: 3, B: 4}, {Op: api.OpIte, A: 1, B: 3, C: 4}, {Op: api.OpExtract, A: 5, P: 8, Q: 3}} {
		id := mustMake(t, p.g, n)
		kept, _ := p.g.Node(id)
		for _, n.Sort = range []int{math.MinInt, -1, 0, 1, 4, 128, 129, math.MaxInt} {
			if again := mustMake(t, p.g, n); again != id {
				t.Errorf("P3.2: Make(%+v): %d, should be %d", n, again, id)
			}
		}
		if now, _ := p.g.Node(id); now != kept {
			t.Errorf("P3.4: Node(%d): %+v, was %+v", id, now, kept)
		}
	}
}

// Unlike in one part alone, two nodes are two.
func TestNodesThatDiffer(t *testing.T) {
	p := newPair(api.MaxTerms)
	p.furnish(t)
	seen := map[int]api.Node{}
	for _, n := range []api.Node{
		{Op: api.OpBvSub, A: 3, B: 4}, {Op: api.OpBvSub, A: 4, B: 3}, {Op: api.OpBvAdd, A: 3, B: 4}, {Op: api.OpBvAdd, A: 4, B: 3}, {Op: api.OpBvAdd, A: 3, B: 7},
		{Op: api.OpIte, A: 1, B: 3, C: 4}, {Op: api.OpIte, A: 2, B: 3, C: 4}, {Op: api.OpIte, A: 1, B: 4, C: 3}, {Op: api.OpIte, A: 1, B: 3, C: 7},
		{Op: api.OpRotl, A: 3, P: 1}, {Op: api.OpRotl, A: 3, P: 5}, {Op: api.OpRotr, A: 3, P: 1}, {Op: api.OpRotl, A: 3}, {Op: api.OpRotl, A: 3, P: 1<<32 + 1},
		{Op: api.OpExtract, A: 5, P: 4, Q: 2}, {Op: api.OpExtract, A: 5, P: 5, Q: 3}, {Op: api.OpZext, A: 3}, {Op: api.OpSext, A: 3}, {Op: api.OpRepeat, A: 3, P: 1},
		{Op: api.OpConst}, constant(api.Bits{Lo: 1}), constant(api.Bits{W: 1}), constant(api.Bits{W: 1, Lo: 1}), constant(api.Bits{W: 128, Lo: 1}), constant(api.Bits{W: 128, Hi: 1}),
	} {
		id := mustMake(t, p.g, n)
		if m, ok := seen[id]; ok {
			t.Errorf("P3.4: %+v and %+v are both node %d", m, n, id)
		}
		seen[id] = n
	}
}

func TestLimits(t *testing.T) {
	for _, c := range []struct{ most, want int }{
		{math.MinInt, 1}, {-1, 1}, {0, 1}, {1, 1}, {2, 2}, {api.MaxTerms - 1, api.MaxTerms - 1},
		{api.MaxTerms, api.MaxTerms}, {api.MaxTerms + 1, api.MaxTerms}, {math.MaxInt, api.MaxTerms},
	} {
		g := term.New(c.most)
		for i := range c.want {
			if id, e := g.Make(constant(api.Bits{W: 64, Lo: uint64(i)})); e != api.OK || id != i+1 {
				t.Fatalf("P3.2: New(%d): node %d: %d, %v", c.most, i+1, id, e)
			}
		}
		checkFull(t, g)
	}
}

// checkFull asks of a full graph of constants 0, 1 .. of 64 bits.
func checkFull(t *testing.T, g *term.Graph) {
	t.Helper()
	most := g.Len()
	for _, n := range []api.Node{{Op: api.OpBvNot, A: 1}, variable("x", 4), variable("x", 5), {Op: api.OpConst}, constant(api.Bits{W: 64, Lo: uint64(most)})} {
		if id, e := g.Make(n); id != 0 || e != api.ErrTermMany {
			t.Fatalf("P3.2: at %d nodes: Make(%+v): %d, %v", most, n, id, e)
		}
	}
	for n, want := range map[api.Node]api.Errno{
		{Op: api.OpNot, A: 1}: api.ErrTermSort, {Op: api.OpBvNot, A: most + 1}: api.ErrTermOp, {}: api.ErrTermOp,
		{Op: api.OpVar}: api.ErrTermName, {Op: api.OpRepeat, A: 1, P: 3}: api.ErrTermWidth, variable("x", -1): api.ErrTermSort,
	} {
		if id, e := g.Make(n); id != 0 || e != want {
			t.Fatalf("P3.2: at %d nodes: Make(%+v): %d, %v; should be %v", most, n, id, e, want)
		}
	}
	if _, ok := g.Var("x"); ok || g.Len() != most || len(g.Vars()) != 0 {
		t.Fatalf("P3.4: a refused Make changed a graph of %d nodes", most)
	}
	for i := range most {
		n := constant(api.Bits{W: 64, Lo: uint64(i)})
		if id, e := g.Make(n); e != api.OK || id != i+1 {
			t.Fatalf("P3.4: at %d nodes: Make(%+v): %d, %v; should be %d", most, n, id, e, i+1)
		}
		if m, ok := g.Node(i + 1); !ok || m != n {
			t.Fatalf("P3.4: at %d nodes: Node(%d): %+v, %v", most, i+1, m, ok)
		}
	}
}

// anyNode is one of a kind that is often taken, with operands among the first of len.
func anyNode(rnd *rand.Rand, len int) api.Node {
	switch rnd.Intn(8) {
	case 0:
		return variable(string(rune('a'+rnd.Intn(12))), rnd.Intn(3)*2)
	case 1:
		return constant(api.Bits{W: rnd.Intn(5), Lo: uint64(rnd.Intn(3))})
	}
	n := api.Node{Op: api.OpNot + rnd.Intn(api.OpRepeat-api.OpNot+1), Sort: rnd.Intn(9)}
	for i, to := range []*int{&n.A, &n.B, &n.C} {
		if i < term.Arity(n.Op) {
			*to = rnd.Intn(len + 2)
		}
	}
	if n.Op >= api.OpExtract {
		n.P = rnd.Intn(5)
	}
	if n.Op == api.OpExtract {
		n.Q = rnd.Intn(n.P + 2)
	}
	return n
}

func TestAnyNodes(t *testing.T) {
	for seed := range int64(60) {
		rnd := rand.New(rand.NewSource(seed))
		p := newPair(1 + rnd.Intn(60))
		var made []api.Node
		for range 3000 {
			n := anyNode(rnd, p.g.Len())
			if p.checkMake(t, n) == api.OK {
				made = append(made, n)
			}
		}
		p.checkAll(t)
		// Told once more, what was made has its number still.
		for _, n := range made {
			if p.checkMake(t, n) != api.OK {
				t.Fatalf("P3.4: Make(%+v) is refused the second time", n)
			}
		}
		checkOperandsLesser(t, p.g)
	}
}

func checkOperandsLesser(t *testing.T, g *term.Graph) {
	t.Helper()
	seen := map[api.Node]int{}
	for id := 1; id <= g.Len(); id++ {
		n, _ := g.Node(id)
		if n.A >= id || n.B >= id || n.C >= id {
			t.Fatalf("P3.4: node %d is made of %d, %d, %d", id, n.A, n.B, n.C)
		}
		if seen[n] != 0 {
			t.Fatalf("P3.4: nodes %d and %d are the same", seen[n], id)
		}
		seen[n] = id
	}
}

// Refused ones between change nothing: the numbers are as without them.
func TestRefusedChangesNothing(t *testing.T) {
	rnd := rand.New(rand.NewSource(3))
	p := newPair(200)
	for p.g.Len() < 200 {
		n := anyNode(rnd, p.g.Len())
		refused := p.r.refuse(n) != api.OK
		p.checkMake(t, n)
		if refused {
			continue
		}
		p.checkMake(t, variable("name"+strconv.Itoa(p.g.Len()), 129))
		p.checkMake(t, api.Node{Op: api.OpVar, Name: "other", P: 1})
		p.checkMake(t, api.Node{Op: api.OpBvAdd, A: p.g.Len(), B: p.g.Len() + 1})
	}
	p.checkAll(t)
	q := term.New(200)
	for i, n := range p.r.nodes {
		if id := mustMake(t, q, n); id != i+1 {
			t.Fatalf("P3.4: without the refused ones %+v is node %d, with them %d", n, id, i+1)
		}
	}
}

// A term in which each node is met twice as often as the one above it has 2^4000 ways through it.
func TestConeOfManyWays(t *testing.T) {
	g := term.New(api.MaxTerms)
	id := mustMake(t, g, variable("x", 8))
	var want []int
	for g.Len() < api.MaxTerms {
		want = append(want, id)
		id = mustMake(t, g, api.Node{Op: api.OpBvAdd, A: id, B: id})
	}
	want = append(want, id)
	if got := g.Cone(id); !slices.Equal(got, want) {
		t.Errorf("P3.3: Cone(%d) has %d numbers", id, len(got))
	}
	if got := g.Cone(1); !slices.Equal(got, []int{1}) {
		t.Errorf("P3.3: Cone(1): %v", got)
	}
}

func TestConeLeavesOthersOut(t *testing.T) {
	p := newPair(api.MaxTerms)
	p.furnish(t)
	low := mustMake(t, p.g, api.Node{Op: api.OpBvNeg, A: 4})
	mustMake(t, p.g, api.Node{Op: api.OpBvNot, A: low})
	top := mustMake(t, p.g, api.Node{Op: api.OpIte, A: 2, B: low, C: 7})
	if got := p.g.Cone(top); !slices.Equal(got, []int{2, 4, 7, low, top}) {
		t.Errorf("P3.3: Cone(%d): %v", top, got)
	}
}

func TestGraphsDontTouch(t *testing.T) {
	g, h := term.New(3), term.New(3)
	mustMake(t, g, variable("x", 4))
	mustMake(t, g, api.Node{Op: api.OpBvNot, A: 1})
	if _, ok := h.Var("x"); ok || h.Len() != 0 {
		t.Fatalf("P3.3: another graph's node is in this one")
	}
	if id := mustMake(t, h, variable("x", 5)); id != 1 {
		t.Errorf("P3.2: the first node is %d", id)
	}
	if n, _ := g.Node(1); n.Sort != 4 {
		t.Errorf("P3.3: Node(1): %+v", n)
	}
}

// A caller may do with the lists what it likes.
func TestAnswersAreNew(t *testing.T) {
	p := newPair(api.MaxTerms)
	p.furnish(t)
	mustMake(t, p.g, api.Node{Op: api.OpIte, A: 1, B: 3, C: 4})
	for _, ask := range []func() []int{p.g.Vars, func() []int { return p.g.Cone(8) }} {
		first := ask()
		want := slices.Clone(first)
		room := first[:cap(first)]
		for i := range room {
			room[i] = -7
		}
		if got := ask(); !slices.Equal(got, want) {
			t.Errorf("P3.3: %v, behind changes of an earlier answer; should be %v", got, want)
		}
	}
	n, _ := p.g.Node(3)
	n.Sort, n.Name = 9, "z"
	if m, _ := p.g.Node(3); m != variable("x", 4) {
		t.Errorf("P3.3: Node(3): %+v", m)
	}
}
