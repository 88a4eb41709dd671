package read_test

import (
	"fmt"
	"slices"
	"testing"

	"plait/api"
	"plait/read"
	"plait/sexp"
	"plait/term"
)

// What a body sees.
func TestWhatBodiesSee(t *testing.T) {
	s, g := scope(t, api.Param{Name: "x", Sort: 4}, api.Param{Name: "y", Sort: 4})
	define(t, s, "f", "x", 4)
	define(t, s, "late", "(bvadd w x)", 4)
	define(t, s, "later", "(bvadd f k)", 4)
	define(t, s, "latest", "(bvadd x (h x))", 4)
	define(t, s, "self", "self", 4)
	define(t, s, "selves", "(selves a)", 4, "a", 4)
	define(t, s, "one", "two", 4)
	define(t, s, "two", "one", 4)
	define(t, s, "through", "f", 4, "x", 4)
	define(t, s, "under", "(let ((x a)) (bvsub x f))", 4, "a", 4)
	define(t, s, "over", "(let ((a y)) (bvsub a x))", 4, "a", 4)
	define(t, s, "beside", "(bvsub a (let ((a x)) a))", 4, "a", 4)
	define(t, s, "swap", "(less b a)", 4, "a", 4, "b", 4)
	define(t, s, "less", "(bvsub a b)", 4, "a", 4, "b", 4)
	define(t, s, "turned", "(less b a)", 4, "a", 4, "b", 4)
	define(t, s, "free", "a", 4)
	define(t, s, "caller", "free", 4, "a", 4)
	if e := s.Declare("w", 4); e != api.OK {
		t.Fatalf("P5.2: %v", e)
	}
	define(t, s, "k", "x", 4)
	define(t, s, "h", "a", 4, "a", 4)
	for x, want := range map[string]string{
		"(through y)": "x", "(under y)": "(bvsub y x)", "(over x)": "(bvsub y x)", "(beside y)": "(bvsub y x)", "(turned x y)": "(bvsub y x)", "(let ((a x) (b y)) (turned b a))": "(bvsub x y)",
		"(let ((x y)) (through x))": "x", "(let ((x y)) (under x))": "(bvsub y x)", "(let ((y x)) (over y))": "(bvsub y x)", "(let ((less x) (a y)) (turned less a))": "(bvsub y x)", "(less (less x y) (less y x))": "(bvsub (bvsub x y) (bvsub y x))",
		"(h k)": "x", "(bvadd w (k))": "(bvadd w x)",
	} {
		checkTerm(t, s, g, x, want)
	}
	for _, x := range []string{"late", "later", "latest", "self", "(self)", "(selves x)", "one", "two", "(swap x y)", "free", "(caller x)",
		"(let ((w x)) late)", "(let ((k x)) later)", "(let ((self x)) (self))", "(let ((a x)) free)", "(let ((one x)) two)"} {
		checkRefused(t, s, x, api.ErrReadName)
	}
}

func nested(n int, inner api.Sexp, wrap func(api.Sexp) api.Sexp) api.Sexp {
	for range n {
		inner = wrap(inner)
	}
	return inner
}

func not(x api.Sexp) api.Sexp { return list(word("not"), x) }

// Each wrap makes what is inside one deeper.
func wraps() map[string]func(api.Sexp) api.Sexp {
	let := func(term, body api.Sexp) api.Sexp {
		return list(word("let"), list(list(word("p"), word("true")), list(word("t"), term)), body)
	}
	return map[string]func(api.Sexp) api.Sexp{
		"an operand":           not,
		"a later operand":      func(x api.Sexp) api.Sexp { return list(word("ite"), word("p"), word("p"), x) },
		"a let's term":         func(x api.Sexp) api.Sexp { return let(x, word("t")) },
		"a let's body":         func(x api.Sexp) api.Sexp { return let(word("p"), x) },
		"a numbered operator":  func(x api.Sexp) api.Sexp { return list(list(word("_"), word("rotate_left"), word("1")), x) },
		"an operand of a name": func(x api.Sexp) api.Sexp { return list(word("const"), x) },
		"one of several":       func(x api.Sexp) api.Sexp { return list(word("="), word("p"), x, word("p")) },
	}
}

func TestDepth(t *testing.T) {
	for what, wrap := range wraps() {
		s, _ := scope(t, api.Param{Name: "p"})
		define(t, s, "const", "true", 0, "a", 0)
		leaf := "p"
		if what == "a numbered operator" {
			leaf = "#b10"
		}
		for _, c := range []struct {
			depth int
			leaf  string
			want  api.Errno
		}{
			{198, leaf, 0}, {199, leaf, 0}, {200, leaf, 0}, {201, leaf, api.ErrReadForm}, {202, leaf, api.ErrReadForm}, {5000, leaf, api.ErrReadForm}, {1 << 16, leaf, api.ErrReadForm},
			{200, "5", api.ErrReadWord}, {201, "5", api.ErrReadForm}, {200, "z", api.ErrReadName}, {201, "z", api.ErrReadForm},
		} {
			if c.depth == 200 && what == "an operand of a name" && c.want == api.OK {
				continue // the name's body stands as deep as its operand: see TestDepthOfBodies
			}
			_, e := s.Term(nested(c.depth-1, word(c.leaf), wrap))
			if e != c.want {
				t.Errorf("P5.5: %s, %s in the depth %d: %v, should be %v", what, c.leaf, c.depth, e, c.want)
			}
		}
	}
}

func TestDepthOfBodies(t *testing.T) {
	s, g := scope(t, api.Param{Name: "x", Sort: 4}, api.Param{Name: "p"})
	define(t, s, "g0", "x", 4)
	for i := range 210 {
		define(t, s, fmt.Sprintf("g%d", i+1), fmt.Sprintf("g%d", i), 4)
	}
	for _, c := range []struct {
		x    string
		want api.Errno
	}{
		{"g198", 0}, {"(g198)", 0}, {"g199", api.ErrReadForm}, {"(g199)", api.ErrReadForm}, {"g210", api.ErrReadForm},
		{"(bvnot g197)", 0}, {"(bvnot g198)", api.ErrReadForm}, {"(let ((a g197)) a)", 0}, {"(let ((a g198)) a)", api.ErrReadForm}, {"(let ((a x)) g197)", 0}, {"(let ((a x)) g198)", api.ErrReadForm},
		{"(let ((a g197)) (bvnot (bvnot (bvnot a))))", 0}, {"(bvadd g198 5)", api.ErrReadForm}, {"(bvadd 5 g198)", api.ErrReadWord}, {"(bvadd g197 5)", api.ErrReadWord},
	} {
		if _, e := s.Term(text(t, c.x)); e != c.want {
			t.Errorf("P5.5: %s: %v, should be %v", c.x, e, c.want)
		}
	}
	define(t, s, "same", "a", 4, "a", 4)
	bvnot := func(x api.Sexp) api.Sexp { return list(word("bvnot"), x) }
	use := func(x api.Sexp) api.Sexp { return list(word("same"), x) }
	for _, c := range []struct {
		what string
		x    api.Sexp
		want api.Errno
	}{
		{"a use in the depth 199", nested(198, use(word("x")), bvnot), 0},
		{"a use in the depth 200", nested(199, use(word("x")), bvnot), api.ErrReadForm},
		{"uses in uses, to 199", nested(199, word("x"), use), 0},
		{"a deep operand of a use", use(nested(198, word("x"), bvnot)), 0},
		{"a body in the depth 200", nested(199, list(word("g0")), bvnot), api.ErrReadForm},
	} {
		if _, e := s.Term(c.x); e != c.want {
			t.Errorf("P5.5: %s: %v, should be %v", c.what, e, c.want)
		}
	}
	// What a name stands for doesn't count at the name.
	deep := nested(198, word("p"), not)
	x := list(word("let"), list(list(word("d"), deep)), nested(198, word("d"), not))
	id, e := s.Term(x)
	if e != api.OK || len(g.Cone(id)) != 2*198+1 {
		t.Errorf("P5.5: a let's name in the depth 200, for a term in the depth 2 to 200: %v", e)
	}
}

// lets binds n names to x: n + 2 terms with the body.
func lets(n int, body api.Sexp) api.Sexp {
	kids := make([]api.Sexp, 0, n)
	for i := range n {
		kids = append(kids, list(word(fmt.Sprintf("n%d", i)), word("x")))
	}
	return list(word("let"), list(kids...), body)
}

const most = 1 << 16

func TestMostTerms(t *testing.T) {
	s, g := scope(t, api.Param{Name: "x", Sort: 4}, api.Param{Name: "p"})
	for _, c := range []struct {
		bound int
		body  string
		want  api.Errno
	}{
		{most - 3, "x", 0}, {most - 2, "x", 0}, {most - 1, "x", api.ErrReadMany}, {most, "x", api.ErrReadMany}, {3 * most, "x", api.ErrReadMany},
		{most - 2, "n65000", 0}, {most - 2, "5", api.ErrReadWord}, {most - 1, "5", api.ErrReadMany}, {most - 2, "(bvnot x)", api.ErrReadMany}, {most - 3, "(bvnot x)", 0}, {most - 3, "(bvnot 5)", api.ErrReadWord},
		{most - 2, "()", api.ErrReadForm}, {most - 1, "()", api.ErrReadMany}, {most - 2, "(bvnot)", api.ErrReadForm}, {most - 2, "#b1", 0}, {most - 2, "(_ bv1 1)", 0},
	} {
		if _, e := s.Term(lets(c.bound, text(t, c.body))); e != c.want {
			t.Errorf("P5.5: %d terms and %s: %v, should be %v", c.bound+1, c.body, e, c.want)
		}
	}
	checkTerm(t, s, g, "(bvadd x x)", "(bvadd x x)")
}

// The count is of what is gone through, not of what is written.
func TestMostTermsInOtherPlaces(t *testing.T) {
	s, _ := scope(t, api.Param{Name: "x", Sort: 4}, api.Param{Name: "p"})
	// A list of operands that isn't gone through.
	many := make([]api.Sexp, 2*most)
	for i := range many {
		many[i] = word("5")
	}
	for _, c := range []struct {
		head string
		want api.Errno
	}{{"not", api.ErrReadForm}, {"z", api.ErrReadName}, {"x", api.ErrReadName}, {"_", api.ErrReadWord}, {"let", api.ErrReadForm}, {"true", api.ErrReadWord}, {"and", api.ErrReadWord}} {
		if _, e := s.Term(list(append([]api.Sexp{word(c.head)}, many...)...)); e != c.want {
			t.Errorf("P5.5: (%s 5 5 ..): %v, should be %v", c.head, e, c.want)
		}
	}
	// Operands, then making.
	for i := range many {
		many[i] = word("p")
	}
	for n, want := range map[int]api.Errno{4000: 0, 10000: api.ErrTermMany, most - 1: api.ErrTermMany, most: api.ErrReadMany} {
		for _, head := range []string{"and", "or", "xor", "=>", "=", "distinct"} {
			if n == 4000 && head == "distinct" {
				continue // more than MaxTerms pairs
			}
			other, _ := scope(t, api.Param{Name: "p"})
			if _, e := other.Term(list(append([]api.Sexp{word(head)}, many[:n]...)...)); e != want {
				t.Errorf("P5.5: %s of %d: %v, should be %v", head, n, e, want)
			}
		}
	}
	// A definition's operands.
	for _, n := range []int{most - 2, most - 1} {
		var params []api.Param
		operands := []api.Sexp{word("f")}
		for i := range n {
			params = append(params, api.Param{Name: fmt.Sprintf("a%d", i)})
			operands = append(operands, word("p"))
		}
		one := read.New(term.New(10))
		one.Declare("p", 0)
		if e := one.Define("f", params, 0, word(fmt.Sprintf("a%d", n-1))); e != api.OK {
			t.Fatalf("P5.3: %v", e)
		}
		want := api.OK
		if n == most-1 {
			want = api.ErrReadMany
		}
		if _, e := one.Term(list(operands...)); e != want {
			t.Errorf("P5.5: a definition with %d operands: %v, should be %v", n, e, want)
		}
	}
}

// A body is gone through each time that it is used: d14 has 2^16 - 2 terms.
func TestMostTermsOfBodies(t *testing.T) {
	s, g := scope(t, api.Param{Name: "x", Sort: 4})
	define(t, s, "d0", "x", 4)
	for i := range 20 {
		define(t, s, fmt.Sprintf("d%d", i+1), fmt.Sprintf("(bvand d%d (d%d))", i, i), 4)
	}
	define(t, s, "twice", "(bvand a a)", 4, "a", 4)
	for _, c := range []struct {
		x    string
		want api.Errno
	}{
		{"d14", 0}, {"(bvnot d14)", 0}, {"(bvnot (bvnot d14))", 0}, {"(bvnot (bvnot (bvnot d14)))", api.ErrReadMany}, {"d15", api.ErrReadMany}, {"d20", api.ErrReadMany},
		{"(bvadd d14 x)", 0}, {"(bvadd d14 5)", api.ErrReadWord}, {"(bvadd d14 x 5)", api.ErrReadMany}, {"(bvadd d14 (bvnot))", api.ErrReadForm}, {"(bvadd d14 (bvnot x))", api.ErrReadMany},
		{"(twice (twice (twice d13)))", 0}, {"(let ((a d14)) a)", 0}, {"(let ((a d14)) (bvnot a))", api.ErrReadMany}, {"(let ((a d13)) (bvadd a a a a a))", 0}, {"(bvadd d13 d13)", 0}, {"(bvadd d13 d13 d0)", 0}, {"(bvadd d13 d13 d0 x)", 0}, {"(bvadd d13 d13 d0 x x)", api.ErrReadMany},
	} {
		if _, e := s.Term(text(t, c.x)); e != c.want {
			t.Errorf("P5.5: %s: %v, should be %v", c.x, e, c.want)
		}
	}
	if g.Len() > 60 {
		t.Errorf("P5.4: %d nodes", g.Len())
	}
}

// ErrReadForm comes ahead of ErrReadMany, where a term is too deep and too late.
func TestDeepAheadOfMany(t *testing.T) {
	s, _ := scope(t, api.Param{Name: "x", Sort: 4}, api.Param{Name: "p"})
	for _, c := range []struct {
		ahead, deep int // how many terms are gone through ahead of the last one, and how deep that is
		want        api.Errno
	}{
		{most - 2, 200, 0}, {most - 1, 200, 0}, {most, 200, api.ErrReadMany}, {most - 1, 201, api.ErrReadForm}, {most, 201, api.ErrReadForm}, {most + 1, 201, api.ErrReadMany},
	} {
		nots := c.deep - 1 - 2
		inner := not(not(word("p")))
		// The let and the two inner ones, and those round them, count too.
		x := nested(nots-1, lets(c.ahead-nots-2, inner), not)
		if _, e := s.Term(x); e != c.want {
			t.Errorf("P5.5: behind %d terms, %d deep: %v, should be %v", c.ahead, c.deep, e, c.want)
		}
	}
}

// With room for just the nodes of a term it is made; with less it isn't; and what is there is told also by a full graph.
func TestFullGraphs(t *testing.T) {
	texts := []string{"true", "#x3", "(_ bv3 4)", "(bvadd x #x3)", "(and p p p)", "(=> p true p)", "(= x y #x3)", "(distinct x y #x3)", "(let ((a (bvneg x))) (bvsub a a))", "(sq (sq x))", "((_ extract 2 1) x)", "(ite p x y)", "(bvneg five)"}
	for _, x := range texts {
		fresh := func(room int) (*read.Scope, *term.Graph) {
			g := term.New(room)
			s := read.New(g)
			for _, p := range []api.Param{{Name: "x", Sort: 4}, {Name: "y", Sort: 4}, {Name: "p"}} {
				if e := s.Declare(p.Name, p.Sort); e != api.OK {
					t.Fatalf("P5.2: %v", e)
				}
			}
			define(t, s, "sq", "(bvmul a a)", 4, "a", 4)
			define(t, s, "five", "#x5", 4)
			return s, g
		}
		s, g := fresh(api.MaxTerms)
		id, e := s.Term(text(t, x))
		if e != api.OK {
			t.Fatalf("P5.4: %s: %v", x, e)
		}
		want := written(g, id)
		need := g.Len()
		for room := 3; room < need; room++ {
			s, _ := fresh(room)
			for range 2 {
				if id, e := s.Term(text(t, x)); id != 0 || e != api.ErrTermMany {
					t.Errorf("P5.4: %s with room for %d: %d, %v", x, room, id, e)
				}
			}
		}
		s, g = fresh(need)
		checkTerm(t, s, g, x, want)
	}
}

// Nothing that is handed in changes, the room behind it neither.
func TestTermLeavesItsText(t *testing.T) {
	s, _ := begun(t)
	for _, x := range []string{"(let ((a x) (c y)) (bvadd a c (sq a)))", "(distinct x y x)", "((_ extract 2 1) (concat x y x))", "(=> p q (both p q))", "(let ((a x) (a y)) a)", "(bvadd x (bvneg z))"} {
		room := text(t, x)
		room.Kids = append(slices.Clip(room.Kids), word("room"), word("room"))
		handed := api.Sexp{List: true, Kids: room.Kids[:len(room.Kids)-2]}
		ahead := sexp.Print(room)
		first, e := s.Term(handed)
		if got := sexp.Print(room); got != ahead {
			t.Errorf("P5.4: Term made %s of %s", got, ahead)
		}
		if again, f := s.Term(handed); again != first || f != e {
			t.Errorf("P5.6: %s: %d, %v, then %d, %v", x, first, e, again, f)
		}
	}
}

// A refused Term leaves no name and no binding behind.
func TestRefusedTermChangesNothing(t *testing.T) {
	s, g := begun(t)
	names := s.Names()
	for _, x := range []string{"(let ((k x)) 5)", "(sq 5)", "(let ((k x)) (sq p))", "(bad x)", "(bvadd (sq x) z)", "wrong", "(let ((x p)) (bvadd x x))"} {
		if id, e := s.Term(text(t, x)); id != 0 || e == api.OK {
			t.Errorf("P5.4: %s: %d, %v", x, id, e)
		}
		checkRefused(t, s, "k", api.ErrReadName)
		checkRefused(t, s, "a", api.ErrReadName)
		checkTerm(t, s, g, "(let ((a x)) (bvadd a (sq y)))", "(bvadd x (bvmul y y))")
		if !slices.Equal(s.Names(), names) {
			t.Errorf("P5.6: %s changed the names", x)
		}
	}
	if e := s.Declare("k", 4); e != api.OK {
		t.Errorf("P5.6: %v", e)
	}
}
