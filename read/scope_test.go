package read_test

import (
	"fmt"
	"math"
	"slices"
	"testing"

	"plait/api"
	"plait/read"
	"plait/term"
)

func scope(t testing.TB, names ...api.Param) (*read.Scope, *term.Graph) {
	t.Helper()
	g := term.New(api.MaxTerms)
	s := read.New(g)
	for _, n := range names {
		if e := s.Declare(n.Name, n.Sort); e != api.OK {
			t.Fatalf("P5.2: Declare(%s, %d): %v", n.Name, n.Sort, e)
		}
	}
	return s, g
}

func checkNames(t *testing.T, s *read.Scope, want ...api.Param) {
	t.Helper()
	if got := s.Names(); !slices.Equal(got, want) {
		t.Errorf("P5.2: Names: %v, should be %v", got, want)
	}
}

func TestDeclareAllSorts(t *testing.T) {
	s, g := scope(t)
	checkNames(t, s)
	var want []api.Param
	for sort := range api.MaxWidth + 1 {
		p := api.Param{Name: fmt.Sprintf("v%d", api.MaxWidth-sort), Sort: sort}
		want = append(want, p)
		if e := s.Declare(p.Name, p.Sort); e != api.OK {
			t.Fatalf("P5.2: Declare(%v): %v", p, e)
		}
		id, e := s.Term(word(p.Name))
		n, _ := g.Node(id)
		if e != api.OK || n != (api.Node{Op: api.OpVar, Sort: sort, Name: p.Name}) {
			t.Errorf("P5.2: %v is the node %v, %v", p, n, e)
		}
		checkNames(t, s, want...)
	}
}

func TestDeclareRefused(t *testing.T) {
	s, g := scope(t, api.Param{Name: "x", Sort: 4}, api.Param{Name: "p"})
	define(t, s, "f", "x", 4)
	other := read.New(g)
	if e := other.Declare("z", 7); e != api.OK {
		t.Fatalf("P5.2: %v", e)
	}
	for _, c := range []struct {
		name string
		sort int
		want api.Errno
	}{
		{"", 4, api.ErrReadWord}, {"and", 4, api.ErrReadWord}, {"#b1", -1, api.ErrReadWord}, {"a b", 129, api.ErrReadWord}, {"repeat", 0, api.ErrReadWord},
		{"x", 4, api.ErrReadTwice}, {"x", 5, api.ErrReadTwice}, {"x", -1, api.ErrReadTwice}, {"p", 0, api.ErrReadTwice}, {"f", 4, api.ErrReadTwice}, {"f", 129, api.ErrReadTwice},
		{"y", -1, api.ErrReadSort}, {"y", 129, api.ErrReadSort}, {"y", math.MinInt, api.ErrReadSort}, {"y", math.MaxInt, api.ErrReadSort}, {"y", 1 << 32, api.ErrReadSort}, {"z", 129, api.ErrReadSort},
		{"z", 4, api.ErrTermName}, {"z", 0, api.ErrTermName},
	} {
		made := g.Len()
		if e := s.Declare(c.name, c.sort); e != c.want {
			t.Errorf("P5.2: Declare(%q, %d): %v, should be %v", c.name, c.sort, e, c.want)
		}
		if g.Len() != made {
			t.Errorf("P5.6: Declare(%q, %d) made a node", c.name, c.sort)
		}
		checkNames(t, s, api.Param{Name: "x", Sort: 4}, api.Param{Name: "p"})
	}
	for _, w := range []string{"y", "z"} {
		if _, e := s.Term(word(w)); e != api.ErrReadName {
			t.Errorf("P5.6: %s, refused, is %v", w, e)
		}
	}
	if e := s.Declare("z", 7); e != api.OK {
		t.Errorf("P5.2: a variable that the graph has: %v", e)
	}
	a, _ := s.Term(word("z"))
	b, _ := other.Term(word("z"))
	if a == 0 || a != b {
		t.Errorf("P5.2: one variable in two scopes: %d and %d", a, b)
	}
}

func TestDeclareInAFullGraph(t *testing.T) {
	g := term.New(2)
	s := read.New(g)
	for _, c := range []struct {
		name string
		want api.Errno
	}{{"a", 0}, {"b", 0}, {"c", api.ErrTermMany}, {"a", api.ErrReadTwice}, {"c", api.ErrTermMany}} {
		if e := s.Declare(c.name, 3); e != c.want {
			t.Errorf("P5.2: Declare(%s) with room for two: %v", c.name, e)
		}
	}
	checkNames(t, s, api.Param{Name: "a", Sort: 3}, api.Param{Name: "b", Sort: 3})
	if e := s.Define("c", nil, 3, word("b")); e != api.OK {
		t.Errorf("P5.6: c, refused, is there: %v", e)
	}
	if e := read.New(g).Declare("b", 3); e != api.OK {
		t.Errorf("P5.2: a variable that a full graph has: %v", e)
	}
}

func TestTwoScopesOverOneGraph(t *testing.T) {
	s, g := scope(t, api.Param{Name: "x", Sort: 4})
	other := read.New(g)
	checkNames(t, other)
	if _, e := other.Term(word("x")); e != api.ErrReadName {
		t.Errorf("P5.2: a name of another scope: %v", e)
	}
	if e := other.Define("x", nil, 0, word("true")); e != api.OK {
		t.Errorf("P5.3: a name of another scope: %v", e)
	}
	if e := other.Declare("y", 4); e != api.OK {
		t.Errorf("P5.2: %v", e)
	}
	checkNames(t, s, api.Param{Name: "x", Sort: 4})
	checkTerm(t, s, g, "x", "x")
	checkTerm(t, other, g, "x", "true")
}

func TestNamesAreNewMemory(t *testing.T) {
	s, g := scope(t, api.Param{Name: "x", Sort: 4}, api.Param{Name: "y", Sort: 4})
	l := s.Names()
	l[0] = api.Param{Name: "z", Sort: 9}
	_ = append(l[:1], api.Param{Name: "w"})
	l = append(l[:2:2], l[:cap(l)]...)
	clear(l)
	checkNames(t, s, api.Param{Name: "x", Sort: 4}, api.Param{Name: "y", Sort: 4})
	first := s.Names()
	first = first[:cap(first)]
	s.Declare("z", 4)
	for _, p := range first {
		if p.Name == "z" {
			t.Errorf("P5.2: a later name in an earlier answer's room")
		}
	}
	checkTerm(t, s, g, "(bvadd x z)", "(bvadd x z)")
}

// define is a Define that must not be refused; params are name, sort, name, sort ..
func define(t testing.TB, s *read.Scope, name, body string, sort int, params ...any) {
	t.Helper()
	var l []api.Param
	for i := 0; i < len(params); i += 2 {
		l = append(l, api.Param{Name: params[i].(string), Sort: params[i+1].(int)})
	}
	if e := s.Define(name, l, sort, text(t, body)); e != api.OK {
		t.Fatalf("P5.3: Define(%s, %v, %d, %s): %v", name, l, sort, body, e)
	}
}

func TestDefineRefused(t *testing.T) {
	s, g := scope(t, api.Param{Name: "x", Sort: 4})
	define(t, s, "f", "x", 4)
	p := func(name string, sort int) api.Param { return api.Param{Name: name, Sort: sort} }
	for _, c := range []struct {
		name   string
		params []api.Param
		sort   int
		want   api.Errno
	}{
		{"", nil, 4, api.ErrReadWord}, {"and", nil, 4, api.ErrReadWord}, {"1", []api.Param{p("a", 4), p("a", 4)}, 129, api.ErrReadWord},
		{"x", []api.Param{p("a", 4), p("let", -1), p("a", 4)}, -1, api.ErrReadWord}, {"h", []api.Param{p("", 4)}, 4, api.ErrReadWord}, {"h", []api.Param{p("a", 1), p("b", 1), p("#b1", 1)}, 1, api.ErrReadWord},
		{"x", nil, 4, api.ErrReadTwice}, {"f", nil, 4, api.ErrReadTwice}, {"x", []api.Param{p("a", -1)}, -1, api.ErrReadTwice}, {"f", nil, 129, api.ErrReadTwice},
		{"h", []api.Param{p("a", 4), p("a", 4)}, 4, api.ErrReadTwice}, {"h", []api.Param{p("a", 4), p("b", 4), p("c", -1), p("a", 5)}, -1, api.ErrReadTwice}, {"h", []api.Param{p("a", 4), p("b", 4), p("b", 0)}, 4, api.ErrReadTwice},
		{"h", nil, -1, api.ErrReadSort}, {"h", nil, 129, api.ErrReadSort}, {"h", nil, math.MinInt, api.ErrReadSort}, {"h", nil, math.MaxInt, api.ErrReadSort},
		{"h", []api.Param{p("a", 4), p("b", -1)}, 4, api.ErrReadSort}, {"h", []api.Param{p("a", 129), p("b", 1)}, 4, api.ErrReadSort}, {"h", []api.Param{p("a", 1<<32)}, 4, api.ErrReadSort},
	} {
		if e := s.Define(c.name, c.params, c.sort, word("x")); e != c.want {
			t.Errorf("P5.3: Define(%q, %v, %d): %v, should be %v", c.name, c.params, c.sort, e, c.want)
		}
	}
	if g.Len() != 1 {
		t.Errorf("P5.3: Define made %d nodes", g.Len()-1)
	}
	checkNames(t, s, p("x", 4))
	checkRefused(t, s, "h", api.ErrReadName)
	checkTerm(t, s, g, "f", "x")
}

// A parameter may have any name that isn't another parameter's.
func TestParameterNames(t *testing.T) {
	s, g := scope(t, api.Param{Name: "x", Sort: 4}, api.Param{Name: "y", Sort: 4})
	define(t, s, "f", "(bvsub x y)", 4, "x", 4, "f", 4)
	define(t, s, "h", "(bvadd h f)", 4, "h", 4, "f", 4)
	define(t, s, "k", "(f f |f|)", 4, "f", 4, "|f|", 4)
	checkTerm(t, s, g, "(f y x)", "(bvsub y y)")
	checkTerm(t, s, g, "(h x y)", "(bvadd x y)")
	checkTerm(t, s, g, "(k x y)", "(bvsub x y)")
}

// The first 256 definitions are taken, however many names are declared.
func TestMostDefinitions(t *testing.T) {
	s, g := scope(t)
	for i := range api.MaxDefs + 5 {
		if e := s.Declare(fmt.Sprintf("x%d", i), 4); e != api.OK {
			t.Fatalf("P5.2: %v", e)
		}
		want := api.OK
		if i >= api.MaxDefs {
			want = api.ErrReadMany
		}
		name := fmt.Sprintf("f%d", i)
		if e := s.Define(name, nil, -1, word("true")); e != api.ErrReadSort {
			t.Errorf("P5.3: a definition of no sort: %v", e)
		}
		if e := s.Define(name, nil, 4, word(fmt.Sprintf("x%d", i))); e != want {
			t.Fatalf("P5.3: the definition with %d ahead of it: %v", i, e)
		}
		if want == api.OK {
			checkTerm(t, s, g, name, fmt.Sprintf("x%d", i))
		} else {
			checkRefused(t, s, name, api.ErrReadName)
		}
	}
	for _, c := range []struct {
		name string
		sort int
		want api.Errno
	}{{"and", 4, api.ErrReadWord}, {"f0", 4, api.ErrReadTwice}, {"h", 129, api.ErrReadSort}, {"h", 128, api.ErrReadMany}} {
		if e := s.Define(c.name, nil, c.sort, word("true")); e != c.want {
			t.Errorf("P5.3: Define(%s, %d) behind MaxDefs: %v", c.name, c.sort, e)
		}
	}
	if e := s.Declare("h", 4); e != api.OK {
		t.Errorf("P5.2: Declare behind MaxDefs definitions: %v", e)
	}
}

// A body isn't looked at till it is used.
func TestBodiesOfAllKinds(t *testing.T) {
	s, _ := scope(t)
	for i, c := range []struct {
		body api.Sexp
		want api.Errno
	}{
		{api.Sexp{}, api.ErrReadWord}, {list(), api.ErrReadForm}, {word("z"), api.ErrReadName}, {word("f3"), api.ErrReadName}, {word("f5"), api.ErrReadName},
		{word("#b1"), api.ErrReadSort}, {list(word("and"), word("true"), word("#b1")), api.ErrTermSort}, {api.Sexp{List: true, Word: "true"}, api.ErrReadForm}, {api.Sexp{Word: "true", Kids: []api.Sexp{{}}}, api.OK},
	} {
		name := fmt.Sprintf("f%d", i)
		if e := s.Define(name, nil, 0, c.body); e != api.OK {
			t.Errorf("P5.3: the body %#v: %v", c.body, e)
		}
		for _, x := range []api.Sexp{word(name), list(word(name))} {
			if id, e := s.Term(x); e != c.want || (id == 0) != (e != api.OK) {
				t.Errorf("P5.4: a use of %#v: %d, %v", c.body, id, e)
			}
		}
	}
}

func TestDefineKeepsNothing(t *testing.T) {
	s, g := scope(t, api.Param{Name: "x", Sort: 4}, api.Param{Name: "y", Sort: 4})
	params := []api.Param{{Name: "a", Sort: 4}, {Name: "b", Sort: 4}, {Name: "room", Sort: 9}}
	inner := []api.Sexp{word("bvneg"), word("b"), word("room")}
	outer := []api.Sexp{word("bvsub"), word("a"), {List: true, Kids: inner[:2]}, word("room")}
	body := api.Sexp{List: true, Kids: outer[:3]}
	if e := s.Define("f", params[:2], 4, body); e != api.OK {
		t.Fatalf("P5.3: %v", e)
	}
	if params[2].Name != "room" || inner[2].Word != "room" || outer[3].Word != "room" || inner[1].Word != "b" || outer[1].Word != "a" || params[0].Name != "a" {
		t.Errorf("P5.3: Define changed what it was handed")
	}
	params[0], params[1] = params[1], params[0]
	inner[0], inner[1], outer[0], outer[1] = word("bvnot"), word("a"), word("bvadd"), word("b")
	checkTerm(t, s, g, "(f x y)", "(bvsub x (bvneg y))")
}
