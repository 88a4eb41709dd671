package rewrite_test

import (
	"math/rand"
	"testing"

	"plait/api"
	"plait/bv"
	"plait/rewrite"
	"plait/term"
)

// again makes a graph with the nodes of another one, and no more room than it is told.
func again(t *testing.T, g *term.Graph, most int) *term.Graph {
	t.Helper()
	h := term.New(most)
	for id := 1; id <= g.Len(); id++ {
		n, _ := g.Node(id)
		if made := mustMake(t, h, n); made != id {
			t.Fatalf("node %d is %d", id, made)
		}
	}
	return h
}

// graphOf has x, y, z, p, q and the term of a text, with room for so many nodes more.
func graphOf(t *testing.T, s string, room int) (*term.Graph, int) {
	t.Helper()
	g := term.New(api.MaxTerms)
	id := readTerm(t, g, s)
	return again(t, g, g.Len()+room), id
}

func checkRefused(t *testing.T, g *term.Graph, id int) {
	t.Helper()
	before := g.Len()
	s, e := rewrite.Simplify(g, id)
	if s != 0 || e != api.ErrTermMany {
		t.Errorf("P7.2: %s in a full graph: %d, %v; wanted %v", text(g, id), s, e, api.ErrTermMany)
	}
	if g.Len() != before {
		t.Errorf("P7.2: %s: refused, and %d nodes are %d", text(g, id), before, g.Len())
	}
}

func TestFullGraphWithoutTheConstant(t *testing.T) {
	for _, s := range []string{
		"(bvadd #b01 #b10)", "(bvult #b01 #b10)", "(= #b01 (bvnot #b10))", "(concat #b01 #b10)", "((_ repeat 2) (bvadd #b01 #b01))",
		"(bvxor x x)", "(bvsub x x)", "(= x x)", "(bvule x x)", "(bvuge x x)", "(bvsle x x)", "(bvsge x x)",
		"(bvult x x)", "(bvugt x x)", "(bvslt x x)", "(bvsgt x x)", "(xor p p)", "(= p p)",
		"(bvsub (bvneg (bvneg x)) x)",
	} {
		g, id := graphOf(t, s, 0)
		checkRefused(t, g, id)
		checkRefused(t, g, id)
		g, id = graphOf(t, s, 1)
		if made := simplified(t, g, id, nil); !isConstant(g, made) {
			t.Errorf("P7.2: %s with room for one node: %s", s, text(g, made))
		}
	}
}

func TestFullGraphThatHasTheConstant(t *testing.T) {
	for _, x := range []struct {
		s string
		v api.Bits
	}{
		{"(bvadd #b01 #b10)", api.Bits{W: 2, Lo: 3}}, {"(bvult #b01 #b10)", bv.Bool(true)},
		{"(bvxor x x)", api.Bits{W: 4}}, {"(= x x)", bv.Bool(true)}, {"(xor p p)", bv.Bool(false)},
		{"(bvsub (bvneg (bvneg x)) x)", api.Bits{W: 4}},
		// (bvor x y) stands in no graph, and needn't.
		{"(bvsub (bvor (bvnot (bvnot x)) y) (bvor x (bvneg (bvneg y))))", api.Bits{W: 4}},
	} {
		g := term.New(api.MaxTerms)
		id := readTerm(t, g, x.s)
		want := constant(t, g, x.v)
		g = again(t, g, g.Len())
		if s, e := rewrite.Simplify(g, id); s != want || e != api.OK {
			t.Errorf("P7.2: %s: %d, %v; wanted %d", x.s, s, e, want)
		}
	}
}

func TestFullGraphWhereNothingIsMade(t *testing.T) {
	for _, x := range [][2]string{
		{"(bvadd x (bvmul #b0011 #b0000))", "x"}, {"(bvmul #x1 x)", "x"}, {"(bvand x x)", "x"}, {"(not (not p))", "p"},
		{"(bvneg (bvneg (bvmul x y)))", "(bvmul x y)"}, {"(ite p (bvor x #x0) x)", "x"}, {"(bvand x #x0)", "#x0"},
		{"(bvmul x y)", "(bvmul x y)"}, {"(bvult (bvnot x) y)", "(bvult (bvnot x) y)"}, {"x", "x"}, {"p", "p"},
		{"(or (bvult x y) (and (bvult x y) (not (not (bvult x y)))))", "(bvult x y)"},
	} {
		g, id := graphOf(t, x[0], 0)
		want := readTerm(t, g, x[1])
		if s, e := rewrite.Simplify(g, id); s != want || e != api.OK {
			t.Errorf("P7.2: %s: %s, %v; wanted %s", x[0], text(g, s), e, x[1])
		}
	}
}

// Where the plain answer has no room, the term itself, or some of it, is an answer that keeps all promises.
func TestFullGraphWithoutRoomForTheAnswer(t *testing.T) {
	for _, s := range []string{
		"(bvmul (bvadd x #x0) (bvneg (bvneg y)))",
		"(bvult (bvor (bvadd x #x0) y) (bvor x (bvmul #x1 z)))",
		"(not (= x (bvadd (bvadd x #x0) y)))",
		"(bvand (bvor (bvudiv x #x1) y) (bvor (bvudiv x #x1) y))",
		"(bvadd (bvor (bvudiv x #x1) y) #x0)",
		"(bvor (bvsub x x) (bvmul y z))",
		"(ite p (bvadd #x1 #x2) y)",
		"((_ extract 2 1) (concat (bvadd (bvor x #x0) y) (bvand (bvneg (bvneg x)) z)))",
		"(bvnot (bvnot (bvxor (bvor x #x0) y)))",
		"(bvnot (bvnot (bvadd (bvor (bvmul x #x1) y) #x0)))",
	} {
		for room := range 6 {
			g, id := graphOf(t, s, room)
			before := g.Len()
			made, e := rewrite.Simplify(g, id)
			if e != api.OK {
				t.Errorf("P7.2: %s with room for %d: %v", s, room, e)
				continue
			}
			checkAnswer(t, g, id, made, envsOfTexts())
			if more := g.Len() - before; more > room {
				t.Errorf("P7.2: %s with room for %d: %d more", s, room, more)
			}
		}
	}
}

// A part that stayed within a concatenation isn't told where it becomes another one outside of it.
func TestFullGraphExtractsWhatIsSimplified(t *testing.T) {
	g := term.New(api.MaxTerms)
	id := readTerm(t, g, "((_ extract 1 0) (concat z (bvadd (bvor (bvmul x #x1) y) #x0)))")
	readTerm(t, g, "((_ extract 1 0) (bvadd (bvor (bvmul x #x1) y) #x0))")
	want := readTerm(t, g, "((_ extract 1 0) (bvor (bvmul x #x1) y))")
	g = again(t, g, g.Len())
	if s := simplified(t, g, id, envsOfTexts()); s != want {
		t.Errorf("P7.2: %s: %s; wanted %s", text(g, id), text(g, s), text(g, want))
	}
}

func envsOfTexts() [][]api.Named {
	var l [][]api.Named
	for _, env := range wideAssignments(4) {
		l = append(l, append(env, api.Named{Name: "z", V: env[1].V}))
	}
	return l
}

func TestAnyRoomByChance(t *testing.T) {
	refused, full := 0, 0
	for seed := range int64(400) {
		source := rand.New(rand.NewSource(seed))
		w := 1 + source.Intn(2)
		whole := someGraph(t, source, w, 40)
		envs := assignments(w)
		for room := range 5 {
			g := again(t, whole, whole.Len()+room)
			id := 1 + source.Intn(whole.Len())
			before := g.Len()
			s, e := rewrite.Simplify(g, id)
			switch {
			case e == api.OK:
				checkAnswer(t, g, id, s, envs)
			case e != api.ErrTermMany || s != 0 || room > 0 || g.Len() != before:
				t.Fatalf("P7.2: %s with room for %d: %d, %v, and %d nodes are %d", text(g, id), room, s, e, before, g.Len())
			default:
				refused++
			}
			if g.Len() == whole.Len()+room {
				full++
			}
		}
	}
	if refused < 20 || full < 400 {
		t.Errorf("only %d calls refused, %d graphs full", refused, full)
	}
}

// withinStands tells whether rule 3 lets rule 5 answer with a node. A full graph may keep (not q) as it is where it has not what q becomes: of (not (not q)) rule 5 asks for q then, which rule 3 forbids.
func withinStands(g *term.Graph, d due) bool {
	return d.id == 0 || isSimplified(g, d.id)
}

// The rows of rule 5 hold in a full graph, too: refused, or right.
func TestFullGraphRowsByChance(t *testing.T) {
	rows := 0
	for seed := range int64(300) {
		source := rand.New(rand.NewSource(seed))
		g := someGraph(t, source, 2, 60)
		g = again(t, g, g.Len())
		for id := g.Len(); id > 0; id-- {
			n, _ := g.Node(id)
			d := dueOf(g, n)
			if !d.any || !withinStands(g, d) || !isSimplified(g, n.A) || !isSimplified(g, n.B) || !isSimplified(g, n.C) {
				continue
			}
			rows++
			s, e := rewrite.Simplify(g, id)
			if e == api.ErrTermMany && d.id == 0 {
				continue
			}
			if e != api.OK || !d.holds(g, s) {
				t.Errorf("P7.2, 5: seed %d: %s: %s, %v; wanted node %d or value %v", seed, text(g, id), text(g, s), e, d.id, d.v)
			}
		}
	}
	if rows < 500 {
		t.Errorf("only %d nodes that rule 5 speaks of", rows)
	}
}
