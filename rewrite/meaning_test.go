package rewrite_test

import (
	"math/rand"
	"slices"
	"testing"

	"plait/api"
	"plait/bv"
	"plait/eval"
	"plait/read"
	"plait/rewrite"
	"plait/sexp"
	"plait/show"
	"plait/term"
)

func mustMake(t *testing.T, g *term.Graph, n api.Node) int {
	t.Helper()
	id, e := g.Make(n)
	if e != api.OK {
		t.Fatalf("Make(%+v): %v", n, e)
	}
	return id
}

func variable(t *testing.T, g *term.Graph, name string, sort int) int {
	t.Helper()
	return mustMake(t, g, api.Node{Op: api.OpVar, Sort: sort, Name: name})
}

func constant(t *testing.T, g *term.Graph, v api.Bits) int {
	t.Helper()
	return mustMake(t, g, api.Node{Op: api.OpConst, Sort: v.W, V: v})
}

func text(g *term.Graph, id int) string {
	s, _ := show.Shared(g, id)
	return s
}

// assignments are all of x, y of a width and p, q of Bool.
func assignments(w int) [][]api.Named {
	var l [][]api.Named
	for i := range 1 << (2*w + 2) {
		x, _ := bv.New(w, uint64(i), 0)
		y, _ := bv.New(w, uint64(i>>w), 0)
		p, q := bv.Bool(i>>(2*w)&1 == 1), bv.Bool(i>>(2*w+1)&1 == 1)
		l = append(l, []api.Named{{Name: "x", V: x}, {Name: "y", V: y}, {Name: "p", V: p}, {Name: "q", V: q}})
	}
	return l
}

// wideAssignments are some of x, y, p, q: the edges, and others that are always the same.
func wideAssignments(w int) [][]api.Named {
	source := rand.New(rand.NewSource(int64(w)))
	var l [][]api.Named
	for i := range 60 {
		a := []uint64{0, 1, ^uint64(0), 1 << 63, source.Uint64(), uint64(w)}[i%6]
		b := []uint64{0, ^uint64(0), source.Uint64()}[i%3]
		x, _ := bv.New(w, a, b)
		y, _ := bv.New(w, source.Uint64()>>source.Intn(64), source.Uint64()>>source.Intn(64))
		l = append(l, []api.Named{{Name: "x", V: x}, {Name: "y", V: y}, {Name: "p", V: bv.Bool(i&1 > 0)}, {Name: "q", V: bv.Bool(i&2 > 0)}})
	}
	return l
}

func variablesOf(g *term.Graph, id int) []int {
	var l []int
	for _, part := range g.Cone(id) {
		if n, _ := g.Node(part); n.Op == api.OpVar {
			l = append(l, part)
		}
	}
	return l
}

func isConstant(g *term.Graph, id int) bool {
	n, _ := g.Node(id)
	return n.Op == api.OpConst
}

// checkAnswer holds an answer of Simplify against all that P7.2 asks of it but rule 5.
func checkAnswer(t *testing.T, g *term.Graph, id, s int, envs [][]api.Named) {
	t.Helper()
	before, _ := g.Node(id)
	after, ok := g.Node(s)
	if !ok || after.Sort != before.Sort {
		t.Fatalf("P7.2: %s, of sort %d: node %d, %v, of sort %d", text(g, id), before.Sort, s, ok, after.Sort)
	}
	had, has := variablesOf(g, id), variablesOf(g, s)
	if len(had) == 0 && after.Op != api.OpConst {
		t.Fatalf("P7.2, 1: %s: %s", text(g, id), text(g, s))
	}
	for _, v := range has {
		if !slices.Contains(had, v) {
			t.Fatalf("P7.2, 2: %s: %s", text(g, id), text(g, s))
		}
	}
	if again, e := rewrite.Simplify(g, s); again != s || e != api.OK {
		t.Fatalf("P7.2, 3: %s: %d, %s; of that: %d, %s, %v", text(g, id), s, text(g, s), again, text(g, again), e)
	}
	old, _ := rewrite.Weight(g, id)
	if now, _ := rewrite.Weight(g, s); now > 4*old+64 {
		t.Fatalf("P7.2, 4: %s: %d nodes; of %s: %d", text(g, id), old, text(g, s), now)
	}
	for _, env := range envs {
		a, e := eval.Eval(g, id, env)
		if b, f := eval.Eval(g, s, env); a != b || e != api.OK || f != api.OK {
			t.Fatalf("P7.2: %s is not %s under %v: %v, %v; %v, %v", text(g, id), text(g, s), env, a, e, b, f)
		}
	}
}

func simplified(t *testing.T, g *term.Graph, id int, envs [][]api.Named) int {
	t.Helper()
	s, e := rewrite.Simplify(g, id)
	if e != api.OK {
		t.Fatalf("P7.2: %s: %v", text(g, id), e)
	}
	checkAnswer(t, g, id, s, envs)
	return s
}

// grown puts nodes of all operators above those that there are, by chance, until there are most.
func grown(source *rand.Rand, g *term.Graph, w, most int) {
	for tries := 0; g.Len() < most && tries < 200*most; tries++ {
		op := api.OpNot + source.Intn(api.OpRepeat-api.OpNot+1)
		n := api.Node{Op: op}
		for _, p := range []*int{&n.A, &n.B, &n.C}[:term.Arity(op)] {
			*p = 1 + source.Intn(g.Len())
		}
		if n.B > 0 && source.Intn(6) == 0 {
			n.B = n.A
		}
		switch op {
		case api.OpExtract:
			n.P, n.Q = source.Intn(2*w+1), source.Intn(w)
		case api.OpZext, api.OpSext, api.OpRotl, api.OpRotr, api.OpRepeat:
			n.P = source.Intn(w + 2)
		}
		g.Make(n)
	}
}

// someGraph has x, y, p, q, some constants, and terms above them.
func someGraph(t *testing.T, source *rand.Rand, w, most int) *term.Graph {
	t.Helper()
	g := term.New(most + 500)
	variable(t, g, "x", w)
	variable(t, g, "y", w)
	variable(t, g, "p", 0)
	variable(t, g, "q", 0)
	for _, k := range []uint64{0, 1, ^uint64(0), 5} {
		if v, _ := bv.New(w, k, k>>2); source.Intn(4) > 0 {
			constant(t, g, v)
		}
	}
	if source.Intn(2) > 0 {
		constant(t, g, bv.Bool(source.Intn(2) > 0))
	}
	grown(source, g, w, most)
	return g
}

func TestSimplifyOfNoNode(t *testing.T) {
	empty, some := term.New(4), term.New(4)
	variable(t, some, "x", 4)
	for _, g := range []*term.Graph{empty, some} {
		before := g.Len()
		for _, id := range noNodes(g) {
			if s, e := rewrite.Simplify(g, id); s != 0 || e != api.ErrRewriteNone {
				t.Errorf("P7.2: Simplify(%d) in a graph of %d: %d, %v", id, g.Len(), s, e)
			}
		}
		if g.Len() != before {
			t.Errorf("P7.2: a refused call made nodes: %d, %d", before, g.Len())
		}
	}
}

// readTerm reads a text with x, y, z of 4 bits and p, q of Bool.
func readTerm(t *testing.T, g *term.Graph, s string) int {
	t.Helper()
	scope := read.New(g)
	for _, p := range []api.Param{{Name: "x", Sort: 4}, {Name: "y", Sort: 4}, {Name: "z", Sort: 4}, {Name: "p"}, {Name: "q"}} {
		scope.Declare(p.Name, p.Sort)
	}
	l, err := sexp.Parse(s)
	if err != nil || len(l) != 1 {
		t.Fatalf("%s: %v", s, err)
	}
	id, e := scope.Term(l[0])
	if e != api.OK {
		t.Fatalf("%s: %v", s, e)
	}
	return id
}

func TestSimplifyExamples(t *testing.T) {
	for _, x := range [][2]string{
		{"(bvadd x (bvmul #b0011 #b0000))", "x"},
		{"(= x x)", "true"},
		{"(bvsub (bvneg (bvneg x)) x)", "#b0000"},
		{"(bvsub (bvmul x (bvadd y (bvxor x x))) (bvmul x y))", "#b0000"},
		{"(bvor (bvand x y) (bvand (bvlshr x #x0) (bvudiv y #x1)))", "(bvand x y)"},
		{"(bvmul (bvadd x #x0) (bvneg (bvneg y)))", "(bvmul x y)"},
		{"(ite (bvult (bvor x y) (bvor x y)) x (bvshl y (bvsub z z)))", "y"},
		{"(and (or p (not (not q))) (not (= x x)))", "false"},
		{"((_ extract 1 0) (concat x x))", "((_ extract 1 0) x)"},
		{"((_ extract 6 5) (concat x y))", "((_ extract 2 1) x)"},
		{"((_ extract 4 4) (concat x y))", "((_ extract 0 0) x)"},
		{"((_ extract 3 3) (concat x y))", "((_ extract 3 3) y)"},
		{"((_ extract 7 4) (concat x y))", "x"},
		{"((_ extract 3 0) (concat x y))", "y"},
		{"((_ extract 4 3) (concat x y))", "((_ extract 4 3) (concat x y))"},
		{"((_ extract 9 8) (concat x (concat #b1010 y)))", "((_ extract 1 0) x)"},
		{"((_ extract 6 5) (concat x (concat #b1010 y)))", "#b01"},
		{"((_ extract 1 1) ((_ extract 3 1) x))", "((_ extract 2 2) x)"},
		{"((_ extract 1 0) ((_ extract 5 2) (concat x y)))", "((_ extract 3 2) y)"},
		{"((_ rotate_right 8) x)", "x"},
		{"(bvadd #x9 #x9)", "#b0010"},
	} {
		g := term.New(api.MaxTerms)
		id := readTerm(t, g, x[0])
		s, e := rewrite.Simplify(g, id)
		if got, _ := show.Whole(g, s); got != x[1] || e != api.OK {
			t.Errorf("P7.2: %s: %s, %v; wanted %s", x[0], got, e, x[1])
		}
	}
}

// Rules that no promise asks for.
func TestSimplifyByRulesOfItsOwn(t *testing.T) {
	for _, x := range [][2]string{
		{"(bvand x #xf)", "x"}, {"(bvor #xf x)", "#b1111"}, {"(bvnand x #x0)", "#b1111"}, {"(bvnor #xf x)", "#b0000"},
		{"(bvxnor x x)", "#b1111"}, {"(bvxnor x #xf)", "x"}, {"(bvcomp x x)", "#b1"},
		{"(=> p p)", "true"}, {"(=> false p)", "true"}, {"(=> true p)", "p"}, {"(=> p true)", "true"},
		{"(bvudiv x #x0)", "#b1111"}, {"(bvsdiv x #x1)", "x"}, {"(bvashr #xf x)", "#b1111"},
		{"(bvurem x x)", "#b0000"}, {"(bvsrem #x0 x)", "#b0000"}, {"(bvsmod x #x0)", "x"}, {"(bvurem x #x1)", "#b0000"},
		{"(bvult x #x0)", "false"}, {"(bvult #xf x)", "false"}, {"(bvule #x0 x)", "true"}, {"(bvule x #xf)", "true"},
		{"(bvugt #x0 x)", "false"}, {"(bvugt x #xf)", "false"}, {"(bvuge #xf x)", "true"}, {"(bvuge x #x0)", "true"},
	} {
		g := term.New(api.MaxTerms)
		id := readTerm(t, g, x[0])
		s, e := rewrite.Simplify(g, id)
		if got, _ := show.Whole(g, s); got != x[1] || e != api.OK {
			t.Errorf("%s: %s, %v; wanted %s", x[0], got, e, x[1])
		}
	}
}

// oneOfEach lays each operator above every choice of operands of x, y, p, q, all constants of the width, and both Bools.
func oneOfEach(t *testing.T, g *term.Graph, w int) []int {
	t.Helper()
	for _, p := range []api.Param{{Name: "x", Sort: w}, {Name: "y", Sort: w}, {Name: "p"}, {Name: "q"}} {
		variable(t, g, p.Name, p.Sort)
	}
	for k := range uint64(1) << w {
		constant(t, g, api.Bits{W: w, Lo: k})
	}
	constant(t, g, bv.Bool(false))
	constant(t, g, bv.Bool(true))
	var l []int
	leaves := g.Len()
	for op := api.OpNot; op <= api.OpRepeat; op++ {
		for i := range leaves * leaves * leaves {
			n := api.Node{Op: op, A: 1 + i%leaves, B: 1 + i/leaves%leaves, C: 1 + i/leaves/leaves}
			l = append(l, laid(g, n, w)...)
		}
	}
	return l
}

// laid makes a node, with its operator's number of operands and all numbers that it may have.
func laid(g *term.Graph, n api.Node, w int) []int {
	arity := term.Arity(n.Op)
	if arity < 3 {
		if n.C != 1 {
			return nil
		}
		n.C = 0
	}
	if arity < 2 {
		if n.B != 1 {
			return nil
		}
		n.B = 0
	}
	var l []int
	for p := range w + 3 {
		for q := range w {
			n.P, n.Q = p, q
			if id, e := g.Make(n); e == api.OK {
				l = append(l, id)
			}
		}
	}
	return l
}

func TestSimplifyKeepsEveryOperatorsValue(t *testing.T) {
	for _, w := range []int{1, 2, 3} {
		g := term.New(api.MaxTerms)
		envs := assignments(w)
		l := oneOfEach(t, g, w)
		met := map[int]bool{}
		for _, id := range l {
			n, _ := g.Node(id)
			met[n.Op] = true
			simplified(t, g, id, envs)
		}
		if len(met) != api.OpRepeat-api.OpNot+1 || g.Len() == api.MaxTerms {
			t.Fatalf("%d operators tried, of %d; %d nodes", len(met), api.OpRepeat-api.OpNot+1, g.Len())
		}
	}
}

func TestSimplifyTermsByChance(t *testing.T) {
	for seed := range int64(120) {
		w := 1 + int(seed%3)
		g := someGraph(t, rand.New(rand.NewSource(seed)), w, 90)
		envs := assignments(w)
		for id := g.Len(); id > 0; id-- {
			simplified(t, g, id, envs)
		}
	}
}

func TestSimplifyWideTerms(t *testing.T) {
	for seed := range int64(60) {
		w := []int{4, 32, 63, 64, 65, 127, 128}[seed%7]
		g := someGraph(t, rand.New(rand.NewSource(1000+seed)), w, 90)
		envs := wideAssignments(w)
		for id := g.Len(); id > 0; id-- {
			simplified(t, g, id, envs)
		}
	}
}

func TestSimplifyWithoutVariables(t *testing.T) {
	for seed := range int64(30) {
		source := rand.New(rand.NewSource(seed))
		w := 1 + source.Intn(64)
		g := term.New(400)
		constant(t, g, bv.Bool(true))
		for range 3 {
			v, _ := bv.New(w, source.Uint64(), 0)
			constant(t, g, v)
		}
		grown(source, g, w, 100)
		for id := g.Len(); id > 0; id-- {
			want, _ := eval.Eval(g, id, nil)
			s, e := rewrite.Simplify(g, id)
			if n, _ := g.Node(s); n.Op != api.OpConst || n.V != want || e != api.OK {
				t.Fatalf("P7.2, 1: %s: %s, %v; wanted %v", text(g, id), text(g, s), e, want)
			}
		}
	}
}

func TestSimplifyALongTerm(t *testing.T) {
	g := term.New(api.MaxTerms)
	x, y := variable(t, g, "x", 8), variable(t, g, "y", 8)
	zero := constant(t, g, api.Bits{W: 8})
	id := mustMake(t, g, api.Node{Op: api.OpBvOr, A: x, B: zero})
	for g.Len() < 1500 {
		id = mustMake(t, g, api.Node{Op: api.OpBvMul, A: id, B: y})
	}
	for g.Len() < 2000 {
		id = mustMake(t, g, api.Node{Op: api.OpBvAdd, A: id, B: zero})
	}
	s := simplified(t, g, id, wideAssignments(8))
	if n, _ := rewrite.Weight(g, s); n != 1498 {
		t.Errorf("P7.2: %d nodes are left; wanted 1498: x, y, and their products", n)
	}
}

// Written out, this term has 2^300 nodes.
func TestSimplifySharedParts(t *testing.T) {
	g := term.New(api.MaxTerms)
	x, zero := variable(t, g, "x", 8), constant(t, g, api.Bits{W: 8})
	id := mustMake(t, g, api.Node{Op: api.OpBvOr, A: x, B: zero})
	for range 300 {
		id = mustMake(t, g, api.Node{Op: api.OpBvMul, A: id, B: id})
	}
	s := simplified(t, g, id, nil)
	if n, _ := rewrite.Weight(g, s); n != 301 {
		t.Errorf("P7.2: %d nodes are left; wanted 301", n)
	}
}

// What isn't part of the answer takes no room in the graph.
func TestSimplifyMakesOnlyItsAnswer(t *testing.T) {
	for seed := range int64(40) {
		g := someGraph(t, rand.New(rand.NewSource(seed)), 2, 80)
		for id := g.Len(); id > 0; id-- {
			before := g.Len()
			s, _ := rewrite.Simplify(g, id)
			cone := g.Cone(s)
			for made := before + 1; made <= g.Len(); made++ {
				if !slices.Contains(cone, made) {
					t.Fatalf("P7.2: %s: %s: %s was made, too", text(g, id), text(g, s), text(g, made))
				}
			}
		}
	}
}

func TestSimplifyIsTheSameInTheSameGraph(t *testing.T) {
	for seed := range int64(20) {
		a := someGraph(t, rand.New(rand.NewSource(seed)), 3, 100)
		b := someGraph(t, rand.New(rand.NewSource(seed)), 3, 100)
		for id := a.Len(); id > 0; id-- {
			s, e := rewrite.Simplify(a, id)
			r, f := rewrite.Simplify(b, id)
			if s != r || e != f || a.Len() != b.Len() {
				t.Fatalf("P7.2: %s: %d, %v, and %d, %v", text(a, id), s, e, r, f)
			}
		}
	}
}

func TestWhoeverAssertsTheSimplifiedTermAssertsTheTerm(t *testing.T) {
	for seed := range int64(30) {
		g := someGraph(t, rand.New(rand.NewSource(700+seed)), 2, 100)
		for id := g.Len(); id > 0; id-- {
			if n, _ := g.Node(id); n.Sort != 0 {
				continue
			}
			s, e := rewrite.Simplify(g, id)
			for _, env := range assignments(2) {
				a, _ := eval.Eval(g, id, env)
				if b, _ := eval.Eval(g, s, env); a != b || e != api.OK {
					t.Fatalf("P7.3: under %v %s is %v, and %s %v, %v", env, text(g, id), a, text(g, s), b, e)
				}
			}
		}
	}
}
