package rewrite_test

import (
	"testing"

	"plait/api"
	"plait/bv"
	"plait/rewrite"
	"plait/term"
)

// again makes a graph with the nodes of another one, and no more room than it is told.
func again(t *testing.T, g *term.Graph, most int) *term.Graph {
	t.Helper()
	h := term.New(most)
	for id := 1; id <= g.Len(); id++ {
		n, _ := g.Node(id)
		if made := mustMake(t, h, n); made != id {
			t.Fatalf("node %d is %d", id, made)
		}
	}
	return h
}

// graphOf has x, y, z, p, q and the term of a text, with room for so many nodes more.
func graphOf(t *testing.T, s string, room int) (*term.Graph, int) {
	t.Helper()
	g := term.New(api.MaxTerms)
	id := readTerm(t, g, s)
	return again(t, g, g.Len()+room), id
}

func checkRefused(t *testing.T, g *term.Graph, id int) {
	t.Helper()
	before := g.Len()
	s, e := rewrite.Simplify(g, id)
	if s != 0 || e != api.ErrTermMany {
		t.Errorf("P7.2: %s in a full graph: %d, %v; wanted %v", text(g, id), s, e, api.ErrTermMany)
	}
	if g.Len() != before {
		t.Errorf("P7.2: %s: refused, and %d nodes are %d", text(g, id), before, g.Len())
	}
}

func TestFullGraphWithoutTheConstant(t *testing.T) {
	for _, s := range []string{
		"(bvadd #b01 #b10)", "(bvult #b01 #b10)", "(= #b01 (bvnot #b10))", "(concat #b01 #b10)", "((_ repeat 2) (bvadd #b01 #b01))",
		"(bvxor x x)", "(bvsub x x)", "(= x x)", "(bvule x x)", "(bvuge x x)", "(bvsle x x)", "(bvsge x x)",
		"(bvult x x)", "(bvugt x x)", "(bvslt x x)", "(bvsgt x x)", "(xor p p)", "(= p p)",
		"(bvsub (bvneg (bvneg x)) x)",
	} {
		g, id := graphOf(t, s, 0)
		checkRefused(t, g, id)
		checkRefused(t, g, id)
		g, id = graphOf(t, s, 1)
		if made := simplified(t, g, id, nil); !isConstant(g, made) {
			t.Errorf("P7.2: %s with room for one node: %s", s, text(g, made))
		}
	}
}

func TestFullGraphThatHasTheConstant(t *testing.T) {
	for _, x := range []struct {
		s string
		v api.Bits
	}{
		{"(bvadd #b01 #b10)", api.Bits{W: 2, Lo: 3}}, {"(bvult #b01 #b10)", bv.Bool(true)},
		{"(bvxor x x)", api.Bits{W: 4}}, {"(= x x)", bv.Bool(true)}, {"(xor p p)", bv.Bool(false)},
		{"(bvsub (bvneg (bvneg x)) x)", api.Bits{W: 4}},
		// (bvor x y) stands in no graph, and needn't.
		{"(bvsub (bvor (bvnot (bvnot x)) y) (bvor x (bvneg (bvneg y))))", api.Bits{W: 4}},
	} {
		g := term.New(api.MaxTerms)
		id := readTerm(t, g, x.s)
		want := constant(t, g, x.v)
		g = again(t, g, g.Len())
		if s, e := rewrite.Simplify(g, id); s != want || e != api.OK {
			t.Errorf("P7.2: %s: %d, %v; wanted %d", x.s, s, e, want)
		}
	}
}

func TestFullGraphWhereNothingIsMade(t *testing.T) {
	for _, x := range [][2]string{
		{"(bvadd x (bvmul #b0011 #b0000))", "x"}, {"(bvmul #x1 x)", "x"}, {"(bvand x x)", "x"}, {"(not (not p))", "p"},
		{"(bvneg (bvneg (bvmul x y)))", "(bvmul x y)"}, {"(ite p (bvor x #x0) x)", "x"}, {"(bvand x #x0)", "#x0"},
		{"(bvmul x y)", "(bvmul x y)"}, {"(bvult (bvnot x) y)", "(bvult (bvnot x) y)"}, {"x", "x"}, {"p", "p"},
		{"(or (bvult x y) (and (bvult x y) (not (not (bvult x y)))))", "(bvult x y)"},
	} {
		g, id := graphOf(t, x[0], 0)
		want := readTerm(t, g, x[1])
		if s, e := rewrite.Simplify(g, id); s != want || e != api.OK {
			t.Errorf("P7.2: %s: %s, %v; wanted %s", x[0], text(g, s), e, x[1])
		}
	}
}

// Where the plain answer has no room, the term itself, or some of it, is an answer that keeps all promises.
func TestFullGraphWithoutRoomForTheAnswer(t *testing.T) {
	for _, s := range []string{
		"(bvmul (bvadd x #x0) (bvneg (bvneg y)))",
		"(bvult (bvor (bvadd x #x0) y) (bvor x (bvmul #x1 z)))",
		"(not (= x (bvadd (bvadd x #x0) y)))",
		"(bvand (bvor (bvudiv x #x1) y) (bvor (bvudiv x #x1) y))",
		"(bvadd (bvor (bvudiv x #x1) y) #x0)",
		"(bvor (bvsub x x) (bvmul y z))",
		"(ite p (bvadd #x1 #x2) y)",
		"((_ extract 2 1) (concat (bvadd (bvor x #x0) y) (bvand (bvneg (bvneg x)) z)))",
		"(bvnot (bvnot (bvxor (bvor x #x0) y)))",
		"(bvnot (bvnot (bvadd (bvor (bvmul x #x1) y) #x0)))",
	} {
		for room := range 6 {
			g, id := graphOf(t, s, room)
			before := g.Len()
			made, e := rewrite.Simplify(g, id)
			if e != api.OK {
				t.Errorf("P7.2: %s with room for %d: %v", s, room, e)
				continue
			}
			checkAnswer(t, g, id, made, envsOfTexts())
			if more := g.Len() - before; more > room {
				t.Errorf("P7.2: %s with room for %d: %d more", s, room, more)
			}
		}
	}
}

// No node must be made where a term, its part, and what is turned can all stay.
func TestFullGraphWhereAllCanStay(t *testing.T) {
	for _, s := range []string{
		"(not (not (and (and p true) q)))", "(bvnot (bvnot (bvmul (bvadd x #x0) y)))", "(bvneg (bvneg (bvmul (bvadd x #x0) y)))",
		"(bvneg (bvneg (bvneg (bvmul (bvadd x #x0) y))))", "(bvnot (bvneg (bvneg (bvmul (bvadd x #x0) y))))",
	} {
		g, _ := graphOf(t, s, 0)
		for id := 1; id <= g.Len(); id++ {
			simplified(t, g, id, envsOfTexts())
		}
	}
}

func envsOfTexts() [][]api.Named {
	var l [][]api.Named
	for _, env := range wideAssignments(4) {
		l = append(l, append(env, api.Named{Name: "z", V: env[1].V}))
	}
	return l
}
