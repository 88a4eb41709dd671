package show_test

import (
	"fmt"
	"math"
	"math/rand"
	"strings"
	"testing"

	"plait/api"
	"plait/bv"
	"plait/read"
	"plait/sexp"
	"plait/show"
	"plait/term"
)

func made(t *testing.T, g *term.Graph, n api.Node) int {
	t.Helper()
	id, e := g.Make(n)
	if e != api.OK {
		t.Fatalf("%v: %v", n, e)
	}
	return id
}

func variable(t *testing.T, g *term.Graph, name string, sort int) int {
	t.Helper()
	return made(t, g, api.Node{Op: api.OpVar, Sort: sort, Name: name})
}

func constant(t *testing.T, g *term.Graph, s string) int {
	t.Helper()
	v, e := bv.Parse(s)
	if e != api.OK {
		t.Fatalf("%s: %v", s, e)
	}
	return made(t, g, api.Node{Op: api.OpConst, Sort: v.W, V: v})
}

func checkWhole(t *testing.T, g *term.Graph, id int, want string) {
	t.Helper()
	if got, e := show.Whole(g, id); got != want || e != api.OK {
		t.Errorf("P6.2: Whole: %q, %v; should be %q", got, e, want)
	}
}

// forms: of each operator, with the operands x y or p q.
func forms() []string {
	l := []string{"(not p)", "(ite p x y)", "(= p q)", "(= x y)", "(ite q p p)", "(bvnot x)", "(bvneg x)", "((_ extract 2 1) x)", "((_ extract 3 0) x)",
		"((_ zero_extend 0) x)", "((_ sign_extend 124) x)", "((_ rotate_left 999) x)", "((_ rotate_right 3) x)", "((_ repeat 12) x)"}
	for _, w := range []string{"and", "or", "xor", "=>"} {
		l = append(l, "("+w+" p q)")
	}
	for _, w := range strings.Fields("bvand bvor bvxor bvnand bvnor bvxnor bvadd bvsub bvmul bvudiv bvurem bvsdiv bvsrem bvsmod bvshl bvlshr bvashr bvult bvule bvugt bvuge bvslt bvsle bvsgt bvsge bvcomp concat") {
		l = append(l, "("+w+" x y)")
	}
	return l
}

func TestWholeOfOperators(t *testing.T) {
	g := term.New(api.MaxTerms)
	s := read.New(g)
	for _, p := range []api.Param{{Name: "x", Sort: 4}, {Name: "y", Sort: 4}, {Name: "p"}, {Name: "q"}} {
		s.Declare(p.Name, p.Sort)
	}
	seen := map[int]bool{}
	for _, f := range forms() {
		l, _ := sexp.Parse(f)
		id, e := s.Term(l[0])
		if e != api.OK {
			t.Fatalf("%s: %v", f, e)
		}
		n, _ := g.Node(id)
		seen[n.Op] = true
		checkWhole(t, g, id, f)
	}
	for op := api.OpNot; op <= api.OpRepeat; op++ {
		if !seen[op] {
			t.Errorf("the test has no operator %d", op)
		}
	}
}

func TestWholeOfConstants(t *testing.T) {
	g := term.New(api.MaxTerms)
	for _, s := range []string{"true", "false", "#b0", "#b1", "#b0010", "#b" + strings.Repeat("10", 64)} {
		checkWhole(t, g, constant(t, g, s), s)
	}
	checkWhole(t, g, constant(t, g, "#xA5"), "#b10100101")
	x := variable(t, g, "x", 4)
	y := made(t, g, api.Node{Op: api.OpBvAdd, A: x, B: x})
	z := made(t, g, api.Node{Op: api.OpBvAdd, A: y, B: y})
	checkWhole(t, g, z, "(bvadd (bvadd x x) (bvadd x x))")
	checkWhole(t, g, made(t, g, api.Node{Op: api.OpUlt, A: z, B: constant(t, g, "#x3")}), "(bvult (bvadd (bvadd x x) (bvadd x x)) #b0011)")
}

func TestWholeOfVariables(t *testing.T) {
	for name, want := range map[string]string{
		"x": "x", "X1": "X1", "_x": "_x", "||": "||", "|a b|": "|a b|", "|and|": "|and|", "Bool": "Bool", "BitVec": "BitVec", "bv1": "bv1", "-": "-", "x#:": "x#:", "?1": "?1", "==": "==",
		"a b": "|a b|", " ": "| |", "5": "|5|", "0x": "|0x|", "9": "|9|", "#b1": "|#b1|", "#": "|#|", ":a": "|:a|", "true": "|true|", "false": "|false|", "let": "|let|", "_": "|_|", "distinct": "|distinct|",
		"(": "|(|", ";": "|;|", "\"": "|\"|", "\t": "|\t|", "\xff": "|\xff|", "ä": "|ä|", "\x00": "|\x00|", "a]": "|a]|",
		"|": "|", "a|": "a|", "|a": "|a", "a|b": "a|b", "a|b|": "a|b|", "|a|b|": "|a|b|", "\n": "\n", "a\nb": "a\nb", "|a\nb|": "|a\nb|", "a b\n": "a b\n", "a |": "a |", "1|": "1|",
	} {
		g := term.New(10)
		checkWhole(t, g, variable(t, g, name, 4), want)
		checkWhole(t, g, made(t, g, api.Node{Op: api.OpBvNot, A: 1}), "(bvnot "+want+")")
	}
	for _, f := range append(forms(), "(distinct p)", "(extract p)", "(repeat p)") {
		w := strings.Fields(strings.TrimPrefix(strings.TrimLeft(f, "("), "_ "))[0]
		g := term.New(10)
		checkWhole(t, g, variable(t, g, w, 4), "|"+w+"|")
	}
}

// Whether bars are put is whether read takes the name.
func TestBarsAsReadTakesNames(t *testing.T) {
	r := rand.New(rand.NewSource(6))
	const some = "ab_|| 1#:-=>\n\xff"
	for range 20000 {
		b := make([]byte, 1+r.Intn(4))
		for i := range b {
			b[i] = some[r.Intn(len(some))]
		}
		name := string(b)
		want := name
		if !read.Name(name) && !strings.ContainsAny(name, "|\n") {
			want = "|" + name + "|"
		}
		g := term.New(1)
		checkWhole(t, g, variable(t, g, name, 0), want)
	}
}

func TestWholeOfNoNode(t *testing.T) {
	g := term.New(10)
	for n := range 3 {
		for _, id := range []int{0, -1, n + 1, math.MinInt, math.MaxInt, 1 << 32, 1<<32 + 1} {
			if got, e := show.Whole(g, id); got != "" || e != api.ErrShowNone {
				t.Errorf("P6.2: Whole of %d among %d: %q, %v", id, n, got, e)
			}
		}
		variable(t, g, fmt.Sprint("x", n), 4)
	}
}

func TestWholeTooLong(t *testing.T) {
	for _, c := range []struct {
		form   string
		op     int
		sort   int
		beside int // bytes beside the name, in all
		twice  bool
		bars   bool
	}{
		{form: "a variable"}, {form: "in bars", beside: 2, bars: true}, {form: "(not n)", op: api.OpNot, beside: 6}, {form: "(bvnot n) in bars", op: api.OpBvNot, sort: 4, beside: 10, bars: true}, {form: "(bvadd n n)", op: api.OpBvAdd, sort: 4, beside: 9, twice: true},
	} {
		for _, size := range []int{api.MaxShow - 3, api.MaxShow - 2, api.MaxShow - 1, api.MaxShow, api.MaxShow + 1, api.MaxShow + 2, api.MaxShow + 3, 3 * api.MaxShow} {
			n := size - c.beside
			if c.twice {
				n /= 2
			}
			letter := "x"
			if c.bars {
				letter = " "
			}
			g := term.New(10)
			id := variable(t, g, strings.Repeat(letter, n), c.sort)
			if c.twice {
				size = 2*n + c.beside
				id = made(t, g, api.Node{Op: c.op, A: id, B: id})
			} else if c.op != 0 {
				id = made(t, g, api.Node{Op: c.op, A: id})
			}
			got, e := show.Whole(g, id)
			if size > api.MaxShow && (got != "" || e != api.ErrShowLong) || size <= api.MaxShow && (len(got) != size || e != api.OK) {
				t.Errorf("P6.2: %s, %d bytes: %d bytes, %v", c.form, size, len(got), e)
			}
		}
	}
}

// Of few nodes, a text of 2^4000 bytes; and one as deep as may be.
func TestWholeOfGreatTerms(t *testing.T) {
	g := term.New(api.MaxTerms)
	id := variable(t, g, "x", 4)
	for range api.MaxTerms - 1 {
		id = made(t, g, api.Node{Op: api.OpBvAdd, A: id, B: id})
	}
	if got, e := show.Whole(g, id); got != "" || e != api.ErrShowLong {
		t.Errorf("P6.2: a great term: %d bytes, %v", len(got), e)
	}
	checkWhole(t, g, 2, "(bvadd x x)")
	g = term.New(api.MaxTerms)
	id = variable(t, g, "p", 0)
	for range api.MaxTerms - 1 {
		id = made(t, g, api.Node{Op: api.OpNot, A: id})
	}
	checkWhole(t, g, id, strings.Repeat("(not ", api.MaxTerms-1)+"p"+strings.Repeat(")", api.MaxTerms-1))
}
