package rewrite_test

import (
	"math/rand"
	"testing"

	"plait/api"
	"plait/bv"
	"plait/rewrite"
	"plait/term"
)

// holds holds one call against P7.2's rules 1 to 4 and rule 4 of DOC.md, in a graph of at most so many nodes, and tells whether it was refused.
func holds(t *testing.T, g *term.Graph, most, id int, envs [][]api.Named) bool {
	t.Helper()
	before := g.Len()
	s, e := rewrite.Simplify(g, id)
	if e == api.OK {
		checkAnswer(t, g, id, s, envs)
		return false
	}
	if e != api.ErrTermMany || s != 0 || before != most || g.Len() != before {
		t.Fatalf("P7.2: %s with room for %d: %d, %v, and %d nodes are %d", text(g, id), most-before, s, e, before, g.Len())
	}
	return true
}

// holdsRows holds all nodes of a graph against rule 5, none passed over, and tells of how many it says something.
func holdsRows(t *testing.T, g *term.Graph, most int) int {
	t.Helper()
	rows := 0
	for id := g.Len(); id > 0; id-- {
		n, _ := g.Node(id)
		d := dueOf(g, n)
		if !d.any || !isSimplified(g, n.A) || !isSimplified(g, n.B) || !isSimplified(g, n.C) {
			continue
		}
		rows++
		full := g.Len() == most
		s, e := rewrite.Simplify(g, id)
		if e == api.ErrTermMany && full && d.id == 0 {
			continue
		}
		if e != api.OK || !d.holds(g, s) {
			t.Fatalf("P7.2, 5: %s: %d, %s, %v; wanted node %d or value %v", text(g, id), s, text(g, s), e, d.id, d.v)
		}
	}
	return rows
}

// tally: what happened in many graphs.
type tally struct {
	rows, refused, full int
}

// holdsAnyRoom asks for each node of a graph first, then for all others, with room for no node more, for one more, and so on.
func (c *tally) holdsAnyRoom(t *testing.T, whole *term.Graph, rooms int, envs [][]api.Named) {
	t.Helper()
	for room := range rooms {
		most := whole.Len() + room
		for first := 1; first <= whole.Len(); first++ {
			g := again(t, whole, most)
			if holds(t, g, most, first, envs) {
				c.refused++
			}
			c.rows += holdsRows(t, g, most)
			for id := 1; id <= g.Len(); id++ {
				holds(t, g, most, id, nil)
			}
			c.rows += holdsRows(t, g, most)
			if g.Len() == most {
				c.full++
			}
		}
	}
}

// turning makes a graph of x, y or p, q, some constants, and terms of a few operators above them: those that undo themselves as often as all others together.
func turning(t *testing.T, source *rand.Rand, w, most int) *term.Graph {
	t.Helper()
	g := term.New(most)
	names := [2]string{"x", "y"}
	turns, others := []int{api.OpBvNot, api.OpBvNeg}, []int{api.OpBvOr, api.OpBvAnd, api.OpBvAdd, api.OpBvMul}
	if w == 0 {
		names = [2]string{"p", "q"}
		turns, others = []int{api.OpNot}, []int{api.OpAnd, api.OpOr, api.OpXor, api.OpIte}
	}
	variable(t, g, names[0], w)
	variable(t, g, names[1], w)
	for k := range uint64(2) {
		if source.Intn(3) > 0 {
			constant(t, g, api.Bits{W: w, Lo: k})
		}
	}
	for g.Len() < most {
		n := api.Node{Op: turns[source.Intn(len(turns))], A: 1 + source.Intn(g.Len())}
		if source.Intn(2) > 0 {
			n.A = g.Len()
		}
		if source.Intn(2) > 0 {
			n.Op, n.B = others[source.Intn(len(others))], 1+source.Intn(g.Len())
		}
		if n.Op == api.OpIte {
			n.C = 1 + source.Intn(g.Len())
		}
		mustMake(t, g, n)
	}
	return g
}

func TestAnyRoomWithMuchTurning(t *testing.T) {
	var c tally
	for seed := range int64(400) {
		source := rand.New(rand.NewSource(seed))
		w := source.Intn(3)
		whole := turning(t, source, w, 5+source.Intn(9))
		c.holdsAnyRoom(t, whole, 5, assignments(max(w, 1)))
	}
	if c.rows < 10000 || c.refused < 100 || c.full < 4000 {
		t.Errorf("only %+v", c)
	}
}

func TestAnyRoomByChance(t *testing.T) {
	var c tally
	for seed := range int64(40) {
		source := rand.New(rand.NewSource(seed))
		w := 1 + source.Intn(2)
		c.holdsAnyRoom(t, someGraph(t, source, w, 20), 5, assignments(w))
	}
	if c.rows < 1000 || c.refused < 100 || c.full < 1000 {
		t.Errorf("only %+v", c)
	}
}

// Each graph of p, true and three nodes above them.
func TestAnyRoomInEverySmallGraph(t *testing.T) {
	var c tally
	var grow func(g *term.Graph, more int)
	grow = func(g *term.Graph, more int) {
		if more == 0 {
			c.holdsAnyRoom(t, g, 3, assignments(1))
			return
		}
		for a := 1; a <= g.Len(); a++ {
			for b := 0; b <= g.Len(); b++ {
				n := api.Node{Op: api.OpAnd, A: a, B: b}
				if b == 0 {
					n.Op = api.OpNot
				}
				h := again(t, g, api.MaxTerms)
				if mustMake(t, h, n) > g.Len() {
					grow(h, more-1)
				}
			}
		}
	}
	g := term.New(2)
	variable(t, g, "p", 0)
	constant(t, g, bv.Bool(true))
	grow(g, 3)
	if c.rows < 10000 || c.refused < 500 || c.full < 5000 {
		t.Errorf("only %+v", c)
	}
}

// tower turns a term so many times, and tells all that it is on the way.
func tower(t *testing.T, g *term.Graph, id, op, height int) []int {
	t.Helper()
	l := []int{id}
	for range height {
		id = mustMake(t, g, api.Node{Op: op, A: id})
		l = append(l, id)
	}
	return l
}

// unsimplified are texts of terms that become others: nodes that there are, or one, two, three new ones; and some that a rule makes one of these.
func unsimplified(op int) []string {
	if op == api.OpNot {
		return []string{
			"(and p true)", "(and (and p true) q)", "(bvult (bvadd x #x0) y)", "(bvult (bvmul (bvadd x #x0) y) (bvor z #x0))",
			"(or (and (and p true) q) (and (and p true) q))", "(ite true (xor (or p false) q) (bvult x y))", "(bvult x x)", "(and p (and p p))",
			"(or (not (ite p q (and (and p true) q))) false)", "(or (not (xor (and (and p true) q) p)) false)",
			"(ite false (xor (or p false) q) (xor p (or q false)))", "(ite true (xor (or p false) q) (xor p (or q false)))",
		}
	}
	return []string{
		"(bvadd x #x0)", "(bvmul (bvadd x #x0) y)", "(bvor (bvmul (bvadd x #x0) y) (bvmul x (bvor y #x0)))",
		"(bvor (bvmul (bvadd x #x0) y) #x0)", "(ite true (bvudiv (bvadd x #x0) (bvmul y #x1)) z)", "(bvxor x x)", "(bvand x (bvand x x))",
		"(ite false (bvmul (bvadd x #x0) y) (bvmul x (bvor y #x0)))", "(ite true (bvmul (bvadd x #x0) y) (bvmul x (bvor y #x0)))",
	}
}

func TestAnyRoomUnderTowers(t *testing.T) {
	var c tally
	for _, op := range []int{api.OpNot, api.OpBvNot, api.OpBvNeg} {
		for _, s := range unsimplified(op) {
			for height := range 6 {
				g := term.New(api.MaxTerms)
				tower(t, g, readTerm(t, g, s), op, height)
				c.holdsAnyRoom(t, g, 6, envsOfTexts()[:8])
			}
		}
	}
	if c.rows < 10000 || c.refused < 100 || c.full < 4000 {
		t.Errorf("only %+v", c)
	}
}

func TestAnyRoomUnderTwoTowers(t *testing.T) {
	var c tally
	for _, s := range unsimplified(api.OpBvNot) {
		for _, heights := range [][2]int{{2, 1}, {2, 2}, {3, 2}, {2, 3}, {4, 4}} {
			g := term.New(api.MaxTerms)
			l := tower(t, g, readTerm(t, g, s), api.OpBvNeg, heights[0])
			tower(t, g, l[1], api.OpBvNot, heights[1])
			c.holdsAnyRoom(t, g, 6, envsOfTexts()[:8])
		}
	}
	if c.rows < 5000 || c.refused < 50 || c.full < 2000 {
		t.Errorf("only %+v", c)
	}
}

// The nodes at a tower's top are too heavy to be told for those at its foot.
func TestAnyRoomUnderAHighTower(t *testing.T) {
	for _, op := range []int{api.OpNot, api.OpBvNot, api.OpBvNeg} {
		for _, s := range unsimplified(op) {
			for height := 198; height < 202; height++ {
				whole := term.New(api.MaxTerms)
				l := tower(t, whole, readTerm(t, whole, s), op, height)
				for room := range 5 {
					most := whole.Len() + room
					for _, id := range []int{l[0], l[1], l[2], l[3], l[100], l[197], l[198]} {
						holds(t, again(t, whole, most), most, id, envsOfTexts()[:8])
					}
				}
			}
		}
	}
}

// What is turned twice, where what is within becomes another term: p, true, (and p true), that turned, and once more.
func TestAnyRoomForWhatIsTurnedTwice(t *testing.T) {
	whole := term.New(api.MaxTerms)
	p := variable(t, whole, "p", 0)
	yes := constant(t, whole, bv.Bool(true))
	and := mustMake(t, whole, api.Node{Op: api.OpAnd, A: p, B: yes})
	l := tower(t, whole, and, api.OpNot, 2)
	for room := range 3 {
		g := again(t, whole, whole.Len()+room)
		for _, id := range []int{and, l[2]} {
			if s, e := rewrite.Simplify(g, id); s != p || e != api.OK {
				t.Errorf("P7.2: %s with room for %d: %d, %v; wanted %d", text(g, id), room, s, e, p)
			}
		}
		if room == 0 {
			checkRefused(t, g, l[1])
			continue
		}
		s := simplified(t, g, l[1], assignments(1))
		if text(g, s) != "(not p)" {
			t.Errorf("P7.2: %s with room for %d: %s", text(g, l[1]), room, text(g, s))
		}
	}
}
