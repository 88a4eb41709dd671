package show_test

import (
	"fmt"
	"math"
	"math/rand"
	"strings"
	"testing"

	"plait/api"
	"plait/bv"
	"plait/show"
	"plait/term"
)

func checkShared(t *testing.T, g *term.Graph, id int, want string) {
	t.Helper()
	if got, e := show.Shared(g, id); got != want || e != api.OK {
		t.Errorf("P6.3: Shared: %q, %v; should be %q", got, e, want)
	}
}

func TestSort(t *testing.T) {
	for sort := -300; sort <= 300; sort++ {
		want := ""
		if sort == 0 {
			want = "Bool"
		} else if sort >= 1 && sort <= 128 {
			want = fmt.Sprintf("(_ BitVec %d)", sort)
		}
		if got := show.Sort(sort); got != want {
			t.Errorf("P6.1: Sort of %d: %q, should be %q", sort, got, want)
		}
	}
	for _, sort := range []int{math.MinInt, math.MinInt32, 1 << 8, 1<<8 + 1, 1 << 32, 1<<32 + 4, math.MaxInt32, math.MaxInt} {
		if got := show.Sort(sort); got != "" {
			t.Errorf("P6.1: Sort of %d: %q", sort, got)
		}
	}
}

func TestSharedExamples(t *testing.T) {
	g := term.New(api.MaxTerms)
	x := variable(t, g, "x", 4)
	y := made(t, g, api.Node{Op: api.OpBvAdd, A: x, B: x})
	z := made(t, g, api.Node{Op: api.OpBvAdd, A: y, B: y})
	checkWhole(t, g, z, "(bvadd (bvadd x x) (bvadd x x))")
	checkShared(t, g, z, "(let ((?1 (bvadd x x))) (bvadd ?1 ?1))")
}

// Texts are made of the terms by an own hand: what stands at two places, and what doesn't.
func TestSharedParts(t *testing.T) {
	for _, c := range []struct{ text, want string }{
		{"x", "x"},
		{"true", "true"},
		{"#x3", "#b0011"},
		{"(bvadd x x)", "(bvadd x x)"},
		{"(concat #b1 #b1)", "(concat #b1 #b1)"},
		{"(bvadd (bvmul x x) (bvadd x #x1))", "(bvadd (bvmul x x) (bvadd x #b0001))"},
		{"(bvnot (bvadd (bvneg x) (bvneg x)))", "(let ((?1 (bvneg x))) (bvnot (bvadd ?1 ?1)))"},
		{"(bvadd (bvneg x) (bvnot (bvneg x)))", "(let ((?1 (bvneg x))) (bvadd ?1 (bvnot ?1)))"},
		{"(bvadd (bvnot (bvneg x)) (bvneg x))", "(let ((?1 (bvneg x))) (bvadd (bvnot ?1) ?1))"},
		{"(ite (not p) (not p) (not p))", "(let ((?1 (not p))) (ite ?1 ?1 ?1))"},
		{"(ite p (not p) (not p))", "(let ((?1 (not p))) (ite p ?1 ?1))"},
		{"(ite (not p) p (not p))", "(let ((?1 (not p))) (ite ?1 p ?1))"},
		{"(concat ((_ extract 2 1) x) ((_ extract 2 1) x))", "(let ((?1 ((_ extract 2 1) x))) (concat ?1 ?1))"},
		{"(concat ((_ repeat 2) x) ((_ repeat 2) x))", "(let ((?1 ((_ repeat 2) x))) (concat ?1 ?1))"},
		// In a part that is written once, a part of one place isn't named, though Whole tells it twice.
		{"(bvadd (bvneg (bvnot x)) (bvneg (bvnot x)))", "(let ((?1 (bvneg (bvnot x)))) (bvadd ?1 ?1))"},
		// In the order of the walk: what is inside first, the left ahead of the right.
		{"(bvadd (bvmul (bvnot x) (bvnot x)) (bvmul (bvnot x) (bvnot x)))", "(let ((?1 (bvnot x))) (let ((?2 (bvmul ?1 ?1))) (bvadd ?2 ?2)))"},
		{"(bvadd (bvsub (bvnot y) (bvnot y)) (bvsub (bvneg x) (bvneg x)))", "(let ((?1 (bvnot y))) (let ((?2 (bvneg x))) (bvadd (bvsub ?1 ?1) (bvsub ?2 ?2))))"},
		{"(bvadd (bvsub (bvneg x) (bvneg x)) (bvsub (bvnot y) (bvnot y)))", "(let ((?1 (bvneg x))) (let ((?2 (bvnot y))) (bvadd (bvsub ?1 ?1) (bvsub ?2 ?2))))"},
		{"(ite (bvult (bvneg x) (bvnot y)) (bvnot y) (bvneg x))", "(let ((?1 (bvneg x))) (let ((?2 (bvnot y))) (ite (bvult ?1 ?2) ?2 ?1)))"},
	} {
		g, id := termOf(t, c.text)
		checkShared(t, g, id, c.want)
	}
}

// Numbers of nodes don't count for the order of names.
func TestSharedOrderIsTheWalks(t *testing.T) {
	g := term.New(api.MaxTerms)
	x := variable(t, g, "x", 4)
	low := made(t, g, api.Node{Op: api.OpBvNot, A: x})
	high := made(t, g, api.Node{Op: api.OpBvNeg, A: x})
	left := made(t, g, api.Node{Op: api.OpBvMul, A: high, B: high})
	right := made(t, g, api.Node{Op: api.OpBvMul, A: low, B: low})
	for _, c := range []struct {
		a, b int
		want string
	}{
		{left, right, "(let ((?1 (bvneg x))) (let ((?2 (bvnot x))) (bvadd (bvmul ?1 ?1) (bvmul ?2 ?2))))"},
		{right, left, "(let ((?1 (bvnot x))) (let ((?2 (bvneg x))) (bvadd (bvmul ?1 ?1) (bvmul ?2 ?2))))"},
	} {
		checkShared(t, g, made(t, g, api.Node{Op: api.OpBvAdd, A: c.a, B: c.b}), c.want)
	}
}

// What stands at a second place elsewhere in the graph isn't shared in the term.
func TestSharedIsOfTheTerm(t *testing.T) {
	g := term.New(api.MaxTerms)
	p := variable(t, g, "p", 0)
	not := made(t, g, api.Node{Op: api.OpNot, A: p})
	and := made(t, g, api.Node{Op: api.OpAnd, A: p, B: not})
	or := made(t, g, api.Node{Op: api.OpOr, A: not, B: not})
	xor := made(t, g, api.Node{Op: api.OpXor, A: and, B: or})
	checkShared(t, g, not, "(not p)")
	checkShared(t, g, and, "(and p (not p))")
	checkShared(t, g, or, "(let ((?1 (not p))) (or ?1 ?1))")
	checkShared(t, g, xor, "(let ((?1 (not p))) (xor (and p ?1) (or ?1 ?1)))")
	checkShared(t, g, and, "(and p (not p))")
}

// A word that a variable of the term has is left out; one that another variable has isn't.
func TestSharedNamesOfVariables(t *testing.T) {
	const two = "(let ((A (not v))) (let ((B (xor A A))) (and B B)))"
	for _, c := range []struct{ v, a, b string }{
		{"?1", "?2", "?3"}, {"?2", "?1", "?3"}, {"?3", "?1", "?2"}, {"?0", "?1", "?2"}, {"?01", "?1", "?2"}, {"?", "?1", "?2"}, {"1", "?1", "?2"},
		{"|?1|", "?1", "?2"}, {"?1 ", "?1", "?2"}, {" ?1", "?1", "?2"}, {"?1\n", "?1", "?2"}, {"?1|", "?1", "?2"}, {"??1", "?1", "?2"}, {"?11", "?1", "?2"}, {"x?1", "?1", "?2"},
	} {
		g := term.New(20)
		variable(t, g, "?2", 7)
		if c.v == "?2" {
			g = term.New(20)
		}
		v := variable(t, g, c.v, 0)
		not := made(t, g, api.Node{Op: api.OpNot, A: v})
		xor := made(t, g, api.Node{Op: api.OpXor, A: not, B: not})
		and := made(t, g, api.Node{Op: api.OpAnd, A: xor, B: xor})
		shown, e := show.Whole(g, v)
		if e != api.OK {
			t.Fatalf("P6.2: %q: %v", c.v, e)
		}
		checkShared(t, g, and, strings.NewReplacer("A", c.a, "B", c.b, "v", shown).Replace(two))
	}
}

// Of ?1 to ?1000 a variable of the term has all but each seventh; behind them all words are free.
func TestSharedNamesLeftOut(t *testing.T) {
	g := term.New(api.MaxTerms)
	id := variable(t, g, "?1", 0)
	for k := 2; k <= 1000; k++ {
		if k%7 != 0 {
			id = made(t, g, api.Node{Op: api.OpOr, A: id, B: variable(t, g, fmt.Sprint("?", k), 0)})
		}
	}
	part, e := show.Whole(g, id)
	if e != api.OK {
		t.Fatalf("P6.2: %v", e)
	}
	lets, ends := "", ""
	for k := 7; k < 1010; k++ {
		if k%7 != 0 && k <= 1000 {
			continue
		}
		id = made(t, g, api.Node{Op: api.OpAnd, A: id, B: id})
		lets += fmt.Sprintf("(let ((?%d %s)) ", k, part)
		part = fmt.Sprintf("(and ?%d ?%d)", k, k)
		ends += ")"
		checkShared(t, g, id, lets+part+ends)
	}
}

func TestSharedOfNoNode(t *testing.T) {
	g := term.New(10)
	for n := range 3 {
		for _, id := range []int{0, -1, n + 1, api.MaxTerms, api.MaxTerms + 1, math.MinInt, math.MaxInt, 1 << 32, 1<<32 + 1} {
			if got, e := show.Shared(g, id); got != "" || e != api.ErrShowNone {
				t.Errorf("P6.3: Shared of %d among %d: %q, %v", id, n, got, e)
			}
		}
		variable(t, g, fmt.Sprint("x", n), 4)
	}
}

// Texts just at MaxShow and about it: the name's length makes them so long.
func TestSharedTooLong(t *testing.T) {
	for _, c := range []struct {
		form  string
		build func(g *term.Graph, v int) int
	}{
		{"v", func(g *term.Graph, v int) int { return v }},
		{"(not v)", func(g *term.Graph, v int) int { return made(t, g, api.Node{Op: api.OpNot, A: v}) }},
		{"(let ((?1 (not v))) (and ?1 ?1))", func(g *term.Graph, v int) int {
			n := made(t, g, api.Node{Op: api.OpNot, A: v})
			return made(t, g, api.Node{Op: api.OpAnd, A: n, B: n})
		}},
		{"(let ((?1 (not p))) (ite (and ?1 ?1) v p))", func(g *term.Graph, v int) int {
			p := variable(t, g, "p", 0)
			n := made(t, g, api.Node{Op: api.OpNot, A: p})
			n = made(t, g, api.Node{Op: api.OpAnd, A: n, B: n})
			return made(t, g, api.Node{Op: api.OpIte, A: n, B: v, C: p})
		}},
		{"(let ((?1 (not p))) (let ((?2 (not v))) (ite (and ?1 ?1) ?2 ?2)))", func(g *term.Graph, v int) int {
			n := made(t, g, api.Node{Op: api.OpNot, A: variable(t, g, "p", 0)})
			n = made(t, g, api.Node{Op: api.OpAnd, A: n, B: n})
			m := made(t, g, api.Node{Op: api.OpNot, A: v})
			return made(t, g, api.Node{Op: api.OpIte, A: n, B: m, C: m})
		}},
	} {
		beside := len(c.form) - 1
		for _, size := range append(about(api.MaxShow), api.MaxShow+beside, 3*api.MaxShow) {
			g := term.New(10)
			name := strings.Repeat("x", size-beside)
			id := c.build(g, variable(t, g, name, 0))
			got, e := show.Shared(g, id)
			want, wanted := strings.Replace(c.form, "v", name, 1), api.OK
			if size > api.MaxShow {
				want, wanted = "", api.ErrShowLong
			}
			if got != want || e != wanted {
				t.Errorf("P6.3: %s, %d bytes: %d bytes, %v", c.form, size, len(got), e)
			}
		}
	}
}

// about tells numbers so near to one that a text of those sizes differs in its last brackets.
func about(n int) []int {
	var l []int
	for k := -6; k <= 6; k++ {
		l = append(l, n+k)
	}
	return l
}

// The one may be too long where the other isn't.
func TestSharedOrWholeTooLong(t *testing.T) {
	g := term.New(10)
	v := variable(t, g, strings.Repeat("x", api.MaxShow/2), 0)
	n := made(t, g, api.Node{Op: api.OpNot, A: v})
	id := made(t, g, api.Node{Op: api.OpAnd, A: n, B: n})
	if got, e := show.Whole(g, id); got != "" || e != api.ErrShowLong {
		t.Errorf("P6.2: %d bytes, %v", len(got), e)
	}
	if got, e := show.Shared(g, id); len(got) != api.MaxShow/2+31 || e != api.OK {
		t.Errorf("P6.3: %d bytes, %v", len(got), e)
	}
	g = term.New(10)
	v = variable(t, g, strings.Repeat("x", api.MaxShow-30), 0)
	n = made(t, g, api.Node{Op: api.OpNot, A: variable(t, g, "p", 0)})
	id = made(t, g, api.Node{Op: api.OpIte, A: v, B: n, C: n})
	if got, e := show.Whole(g, id); len(got) != api.MaxShow-30+22 || e != api.OK {
		t.Errorf("P6.2: %d bytes, %v", len(got), e)
	}
	if got, e := show.Shared(g, id); got != "" || e != api.ErrShowLong {
		t.Errorf("P6.3: %d bytes, %v", len(got), e)
	}
}

// Chains of doubled terms, up to a full graph: asked all about where the text gets too long, and now and then elsewhere.
func TestSharedOfGreatTerms(t *testing.T) {
	g := term.New(api.MaxTerms)
	id := variable(t, g, "x", 4)
	var lets strings.Builder
	long := false
	for k := 1; k < api.MaxTerms; k++ {
		id = made(t, g, api.Node{Op: api.OpBvAdd, A: id, B: id})
		part := "(bvadd x x)"
		if k > 1 {
			part = fmt.Sprintf("(bvadd ?%d ?%d)", k-1, k-1)
		}
		want, wanted := lets.String()+part+strings.Repeat(")", k-1), api.OK
		near := len(want) > api.MaxShow-300 && len(want) < api.MaxShow+300
		if len(want) > api.MaxShow {
			want, wanted, long = "", api.ErrShowLong, true
		}
		if near || k%97 == 0 || k == api.MaxTerms-1 {
			if got, e := show.Shared(g, id); got != want || e != wanted {
				t.Fatalf("P6.3: %d doubled: %d bytes, %v; should be %d, %v", k, len(got), e, len(want), wanted)
			}
		}
		fmt.Fprintf(&lets, "(let ((?%d %s)) ", k, part)
	}
	if !long {
		t.Error("the test has no text that is too long")
	}
	g = term.New(api.MaxTerms)
	id = variable(t, g, "p", 0)
	for range api.MaxTerms - 1 {
		id = made(t, g, api.Node{Op: api.OpNot, A: id})
	}
	checkShared(t, g, id, strings.Repeat("(not ", api.MaxTerms-1)+"p"+strings.Repeat(")", api.MaxTerms-1))
}

// grown puts up to n more nodes into a graph, of all operators; oft of what was made last, so that they are deep.
func grown(r *rand.Rand, g *term.Graph, n int) {
	some := func() int {
		if r.Intn(3) > 0 {
			return g.Len() - r.Intn(min(g.Len(), 8))
		}
		return 1 + r.Intn(g.Len())
	}
	for range n {
		op := api.OpNot + r.Intn(api.OpRepeat-api.OpNot+1)
		n := api.Node{Op: op, A: some()}
		switch op {
		case api.OpExtract:
			n.P = r.Intn(4)
			n.Q = r.Intn(n.P + 1)
		case api.OpZext, api.OpSext, api.OpRotl, api.OpRotr, api.OpRepeat:
			n.P = r.Intn(4)
		}
		if term.Arity(op) > 1 {
			n.B = some()
		}
		if term.Arity(op) > 2 {
			n.C = some()
		}
		g.Make(n)
	}
}

// reference writes Shared's text by the document's words, and by nothing of the package.
type reference struct {
	g     *term.Graph
	names map[int]string
}

func (r reference) operands(id int) []int {
	n, _ := r.g.Node(id)
	return []int{n.A, n.B, n.C}[:term.Arity(n.Op)]
}

func (r reference) order(id int, seen map[int]bool) []int {
	if seen[id] {
		return nil
	}
	seen[id] = true
	var l []int
	for _, a := range r.operands(id) {
		l = append(l, r.order(a, seen)...)
	}
	return append(l, id)
}

func (r reference) text(id int, itself bool) string {
	if w, ok := r.names[id]; ok && !itself {
		return w
	}
	n, _ := r.g.Node(id)
	switch n.Op {
	case api.OpConst:
		return bv.Text(n.V)
	case api.OpVar:
		return n.Name
	}
	head := opWord(n.Op)
	switch {
	case n.Op == api.OpExtract:
		head = fmt.Sprintf("(_ %s %d %d)", head, n.P, n.Q)
	case n.Op > api.OpExtract:
		head = fmt.Sprintf("(_ %s %d)", head, n.P)
	}
	for _, a := range r.operands(id) {
		head += " " + r.text(a, false)
	}
	return "(" + head + ")"
}

func (r reference) shared(id int) string {
	taken := map[string]bool{}
	places := map[int]int{}
	for _, c := range r.g.Cone(id) {
		n, _ := r.g.Node(c)
		taken[n.Name] = true
		for _, a := range r.operands(c) {
			places[a]++
		}
	}
	text, k, ends := "", 0, ""
	for _, c := range r.order(id, map[int]bool{}) {
		if places[c] < 2 || len(r.operands(c)) == 0 {
			continue
		}
		for k++; taken[fmt.Sprint("?", k)]; {
			k++
		}
		r.names[c] = fmt.Sprint("?", k)
		text += "(let ((" + r.names[c] + " " + r.text(c, true) + ")) "
		ends += ")"
	}
	return text + r.text(id, false) + ends
}

// opWord tells an operator's word by the list of chapter 5, which has the operators in api's order.
func opWord(op int) string {
	return strings.Fields("not and or xor => = ite bvnot bvneg bvand bvor bvxor bvnand bvnor bvxnor bvadd bvsub bvmul bvudiv bvurem bvsdiv bvsrem bvsmod bvshl bvlshr bvashr bvult bvule bvugt bvuge bvslt bvsle bvsgt bvsge bvcomp concat extract zero_extend sign_extend rotate_left rotate_right repeat")[op-api.OpNot]
}

func TestSharedAsReference(t *testing.T) {
	r := rand.New(rand.NewSource(63))
	lets := 0
	for range 300 {
		g := term.New(api.MaxTerms)
		for _, v := range []string{"x", "y", "|a b|", "?3"} {
			variable(t, g, v, 4)
		}
		for _, v := range []string{"p", "?1", "?5", "q"} {
			variable(t, g, v, 0)
		}
		constant(t, g, "#x6")
		constant(t, g, "true")
		grown(r, g, 80)
		for id := 1; id <= g.Len(); id++ {
			ref := reference{g, map[int]string{}}
			want := ref.shared(id)
			lets = max(lets, len(ref.names))
			if len(want) > api.MaxShow {
				t.Fatalf("the test's terms are too long: %d bytes", len(want))
			}
			if got, e := show.Shared(g, id); got != want || e != api.OK {
				t.Fatalf("P6.3: Shared: %q, %v; should be %q", got, e, want)
			}
			if len(ref.names) == 0 {
				checkWhole(t, g, id, want)
			}
		}
	}
	if lets < 8 {
		t.Errorf("the test has at most %d lets", lets)
	}
}
