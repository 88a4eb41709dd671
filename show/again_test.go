package show_test

import (
	"math/rand"
	"testing"

	"plait/api"
	"plait/read"
	"plait/sexp"
	"plait/show"
	"plait/term"
)

// scopeOf has all names that are given, over a graph.
func scopeOf(t *testing.T, g *term.Graph, names ...api.Param) *read.Scope {
	t.Helper()
	s := read.New(g)
	for _, p := range names {
		if e := s.Declare(p.Name, p.Sort); e != api.OK {
			t.Fatalf("P5.2: %q: %v", p.Name, e)
		}
	}
	return s
}

// termOf reads a text in a new graph, with x, y of 4 bits and p, q of Bool.
func termOf(t *testing.T, text string) (*term.Graph, int) {
	t.Helper()
	g := term.New(api.MaxTerms)
	s := scopeOf(t, g, api.Param{Name: "x", Sort: 4}, api.Param{Name: "y", Sort: 4}, api.Param{Name: "p"}, api.Param{Name: "q"})
	l, err := sexp.Parse(text)
	if err != nil || len(l) != 1 {
		t.Fatalf("%s: %v", text, err)
	}
	id, e := s.Term(l[0])
	if e != api.OK {
		t.Fatalf("%s: %v", text, e)
	}
	return g, id
}

// takenAgain tells whether sexp and read take a text; if they do, it must be the node.
func takenAgain(t *testing.T, s *read.Scope, text string, id int) bool {
	t.Helper()
	l, err := sexp.Parse(text)
	if err != nil {
		return false
	}
	if len(l) != 1 {
		t.Fatalf("P6.4: %q: %d texts", text, len(l))
	}
	again, e := s.Term(l[0])
	if e != api.OK {
		return false
	}
	if again != id {
		t.Fatalf("P6.4: %d is shown as %q, which is read as %d", id, text, again)
	}
	return true
}

func manyNames() []api.Param {
	return []api.Param{{Name: "x", Sort: 4}, {Name: "?2", Sort: 4}, {Name: "|a b|", Sort: 8}, {Name: "||", Sort: 1}, {Name: "p"}, {Name: "?1"}, {Name: "|and|"}, {Name: "?11"}, {Name: "|?3|"}}
}

// Terms of all operators, in a scope that has also definitions, of the very words that lets bind.
func TestShownIsReadAgain(t *testing.T) {
	r := rand.New(rand.NewSource(64))
	for range 300 {
		g := term.New(api.MaxTerms)
		s := scopeOf(t, g, manyNames()...)
		for _, d := range []struct {
			name   string
			params []api.Param
		}{{"?3", nil}, {"?4", []api.Param{{Name: "x", Sort: 4}}}} {
			if e := s.Define(d.name, d.params, 4, api.Sexp{Word: "#b0000"}); e != api.OK {
				t.Fatalf("P5.3: %v", e)
			}
		}
		constant(t, g, "#b1010")
		constant(t, g, "#b0")
		constant(t, g, "true")
		grown(r, g, 80)
		nodes := g.Len()
		for id := 1; id <= nodes; id++ {
			shared, e := show.Shared(g, id)
			if e != api.OK || !takenAgain(t, s, shared, id) {
				t.Fatalf("P6.4: %d is %q, %v", id, shared, e)
			}
			whole, e := show.Whole(g, id)
			if e == api.OK && !takenAgain(t, s, whole, id) && len(whole) < 5000 {
				t.Fatalf("P6.4: %d is %q", id, whole)
			}
		}
		if g.Len() != nodes {
			t.Fatalf("P6.4: %d nodes became %d", nodes, g.Len())
		}
	}
}

// In a graph of its own the text is a term that is shown alike.
func TestShownElsewhere(t *testing.T) {
	r := rand.New(rand.NewSource(65))
	for range 100 {
		g := term.New(api.MaxTerms)
		scopeOf(t, g, manyNames()...)
		grown(r, g, 60)
		for id := 1; id <= g.Len(); id++ {
			shared, e := show.Shared(g, id)
			if e != api.OK {
				t.Fatalf("P6.3: %v", e)
			}
			l, err := sexp.Parse(shared)
			if err != nil {
				t.Fatalf("P6.4: %q: %v", shared, err)
			}
			other := term.New(api.MaxTerms)
			again, e := scopeOf(t, other, manyNames()...).Term(l[0])
			if e != api.OK {
				t.Fatalf("P6.4: %q: %v", shared, e)
			}
			checkShared(t, other, again, shared)
		}
	}
}

// As deep as read takes them (a variable stands one deeper than the k-th operator, a let's term in two brackets more); and deeper.
func TestShownTooDeep(t *testing.T) {
	g := term.New(api.MaxTerms)
	s := scopeOf(t, g, api.Param{Name: "p"})
	single, double := 1, 1
	for k := 1; k <= api.MaxDepth+5; k++ {
		single = made(t, g, api.Node{Op: api.OpNot, A: single})
		double = made(t, g, api.Node{Op: api.OpAnd, A: double, B: double})
		for _, c := range []struct {
			id   int
			show func(*term.Graph, int) (string, api.Errno)
			most int
		}{{single, show.Whole, api.MaxDepth - 1}, {single, show.Shared, api.MaxDepth - 1}, {double, show.Shared, api.MaxDepth - 2}} {
			text, e := c.show(g, c.id)
			if e != api.OK {
				t.Fatalf("P6.2, P6.3: %v", e)
			}
			if taken := takenAgain(t, s, text, c.id); taken != (k <= c.most) {
				t.Errorf("P6.4: %d deep: %v", k, taken)
			}
		}
	}
}

// Showing changes nothing, and tells the same twice.
func TestShowingChangesNothing(t *testing.T) {
	r := rand.New(rand.NewSource(66))
	g := term.New(api.MaxTerms)
	scopeOf(t, g, manyNames()...)
	grown(r, g, 200)
	var before []api.Node
	for id := 1; id <= g.Len(); id++ {
		n, _ := g.Node(id)
		before = append(before, n)
	}
	var first []string
	for round := range 2 {
		for id := 1; id <= len(before); id++ {
			whole, e := show.Whole(g, id)
			shared, f := show.Shared(g, id)
			if round == 0 {
				first = append(first, whole, shared)
			} else if first[2*id-2] != whole || first[2*id-1] != shared {
				t.Fatalf("P6.2, P6.3: %q, %v, then %q, %v", first[2*id-1], e, shared, f)
			}
		}
	}
	if g.Len() != len(before) {
		t.Fatalf("P6.3: %d nodes became %d", len(before), g.Len())
	}
	for i, n := range before {
		if now, _ := g.Node(i + 1); now != n {
			t.Errorf("P6.3: %v became %v", n, now)
		}
	}
}
