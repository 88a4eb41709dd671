package read_test

import (
	"fmt"
	"math/big"
	"strings"
	"testing"

	"plait/api"
	"plait/bv"
	"plait/read"
	"plait/term"
)

// opWord has each operator's word, for written: by the chapter's list, in api's order.
func opWord(op int) string {
	l := strings.Fields("not and or xor => = ite bvnot bvneg bvand bvor bvxor bvnand bvnor bvxnor bvadd bvsub bvmul bvudiv bvurem bvsdiv bvsrem bvsmod " +
		"bvshl bvlshr bvashr bvult bvule bvugt bvuge bvslt bvsle bvsgt bvsge bvcomp concat extract zero_extend sign_extend rotate_left rotate_right repeat")
	return l[op-api.OpNot]
}

// written tells a node as a text, its operands as they are.
func written(g *term.Graph, id int) string {
	n, ok := g.Node(id)
	if !ok {
		return "no node"
	}
	switch n.Op {
	case api.OpConst:
		return bv.Text(n.V)
	case api.OpVar:
		return n.Name
	}
	head := opWord(n.Op)
	switch n.Op {
	case api.OpExtract:
		head = fmt.Sprintf("(_ %s %d %d)", head, n.P, n.Q)
	case api.OpZext, api.OpSext, api.OpRotl, api.OpRotr, api.OpRepeat:
		head = fmt.Sprintf("(_ %s %d)", head, n.P)
	}
	for _, a := range []int{n.A, n.B, n.C} {
		if a != 0 {
			head += " " + written(g, a)
		}
	}
	return "(" + head + ")"
}

func checkSexp(t *testing.T, s *read.Scope, g *term.Graph, x api.Sexp, want string) {
	t.Helper()
	id, e := s.Term(x)
	if e != api.OK || written(g, id) != want {
		t.Errorf("P5.4: %v: %v, %v; should be %s", x, written(g, id), e, want)
		return
	}
	made := g.Len()
	if again, e := s.Term(x); again != id || e != api.OK || g.Len() != made {
		t.Errorf("P5.6: %v is %d, and, once more, %d, %v", x, id, again, e)
	}
}

func checkTerm(t *testing.T, s *read.Scope, g *term.Graph, x, want string) {
	t.Helper()
	checkSexp(t, s, g, text(t, x), want)
}

func checkRefused(t *testing.T, s *read.Scope, x string, want api.Errno) {
	t.Helper()
	if id, e := s.Term(text(t, x)); id != 0 || e != want {
		t.Errorf("P5.4: %s: %d, %v; should be %v", x, id, e, want)
	}
}

// begun has x, y of 4 bits, b of one, p and q Bools, |a b| of 8, and, defined, sq, top, both, no.
func begun(t *testing.T) (*read.Scope, *term.Graph) {
	s, g := scope(t, api.Param{Name: "x", Sort: 4}, api.Param{Name: "y", Sort: 4}, api.Param{Name: "b", Sort: 1},
		api.Param{Name: "p"}, api.Param{Name: "q"}, api.Param{Name: "|a b|", Sort: 8})
	define(t, s, "sq", "(bvmul a a)", 4, "a", 4)
	define(t, s, "top", "x", 4)
	define(t, s, "both", "(and a b)", 0, "a", 0, "b", 0)
	define(t, s, "wrong", "p", 4)
	define(t, s, "bad", "(bvadd x b)", 4, "a", 4)
	return s, g
}

func TestConstants(t *testing.T) {
	s, g := begun(t)
	for x, want := range map[string]string{
		"true": "true", "false": "false", "#b0": "#b0", "#b01": "#b01", "#xF": "#b1111", "#xf0": "#b11110000",
		"#b" + strings.Repeat("10", 64): "#b" + strings.Repeat("10", 64), "#x" + strings.Repeat("5", 32): "#b" + strings.Repeat("01", 64),
		"(_ bv0 1)": "#b0", "(_ bv1 1)": "#b1", "(_ bv2 1)": "#b0", "(_ bv18 4)": "#b0010", "(_ bv10 8)": "#b00001010",
	} {
		checkTerm(t, s, g, x, want)
	}
	for _, x := range []string{
		"5", "0", "#", "#b", "#x", "#b2", "#xg", "#B1", "#X1", "#d1", "#b" + strings.Repeat("1", 129), "#x" + strings.Repeat("1", 33),
		":a", ":", "_", "let", "and", "extract", "distinct", "1x",
		"(_)", "(_ bv5)", "(_ 4)", "(_ bv5 4 4)", "(_ bv5 4 ())", "(_ bv 4)", "(_ b5 4)", "(_ 5 4)", "(_ Bv5 4)", "(_ bv05 4)", "(_ bv00 4)", "(_ bv5x 4)", "(_ bvx 4)", "(_ bv+5 4)", "(_ bv-5 4)", "(_ bv5_0 4)",
		"(_ bv5 04)", "(_ bv5 00)", "(_ bv5 x)", "(_ bv5 4x)", "(_ bv5 -4)", "(_ bv5 +4)", "(_ bv5 1_0)", "(_ bv5 (4))", "(_ bv5 ())", "(_ (bv5) 4)", "(_ () 4)", "(_ |bv5| 4)", "(_ bv5 |4|)", "(_ bv5 #x4)",
		"(_ bv5 1234567890)", "(_ bv5 0000000004)", "(_ bv05 0)", "(_ bvx 129)",
		"(_ bv1" + strings.Repeat("0", 39) + " 4)", "(_ bv" + strings.Repeat("9", 40) + " 129)",
		"(_ extract 2 1)", "(_ BitVec 4)", "(_ x y)", "(_ let x)", "(_ and p p)", "(_ sq x)", "(_ (x) y z)", "(_ ())",
	} {
		checkRefused(t, s, x, api.ErrReadWord)
	}
	for _, x := range []string{"(_ bv5 0)", "(_ bv5 129)", "(_ bv0 999999999)", "(_ bv0 256)", "(_ bv" + strings.Repeat("9", 39) + " 129)"} {
		checkRefused(t, s, x, api.ErrTermWidth)
	}
}

func TestDecimalsModulo(t *testing.T) {
	s, g := scope(t)
	two := big.NewInt(2)
	numbers := []*big.Int{}
	for i := range int64(130) {
		for d := range int64(3) {
			n := new(big.Int).Exp(two, big.NewInt(i), nil)
			numbers = append(numbers, n.Add(n, big.NewInt(d-1)))
		}
	}
	for i := range int64(40) {
		n := new(big.Int).Exp(big.NewInt(10), big.NewInt(i), nil)
		numbers = append(numbers, n.Sub(n, big.NewInt(1)))
	}
	numbers[len(numbers)-2].SetString("123456789012345678901234567890123456789", 10)
	for _, n := range numbers {
		for _, w := range []int{1, 2, 7, 63, 64, 65, 100, 127, 128} {
			g = term.New(api.MaxTerms)
			s = read.New(g)
			m := new(big.Int).Mod(n, new(big.Int).Exp(two, big.NewInt(int64(w)), nil))
			checkTerm(t, s, g, fmt.Sprintf("(_ bv%v %d)", n, w), fmt.Sprintf("#b%0*b", w, m))
		}
	}
}

// Each operator: the node that it makes, with as few operands as may be.
func TestOperators(t *testing.T) {
	s, g := begun(t)
	for op := api.OpNot; op <= api.OpRepeat; op++ {
		w := opWord(op)
		x := "(" + w + " x y)"
		switch op {
		case api.OpNot:
			x = "(not p)"
		case api.OpAnd, api.OpOr, api.OpXor, api.OpImplies:
			x = "(" + w + " p q)"
		case api.OpIte:
			x = "(ite p x y)"
		case api.OpBvNot, api.OpBvNeg:
			x = "(" + w + " x)"
		case api.OpExtract:
			x = "((_ extract 2 1) x)"
		case api.OpZext, api.OpSext, api.OpRotl, api.OpRotr, api.OpRepeat:
			x = "((_ " + w + " 3) x)"
		}
		checkTerm(t, s, g, x, x)
		if id, _ := s.Term(text(t, x)); id != 0 {
			if n, _ := g.Node(id); n.Op != op {
				t.Errorf("P5.4: %s has the operator %d, not %d", x, n.Op, op)
			}
		}
	}
}

// How many operands each operator takes, and how it takes more than two.
func TestHowManyOperands(t *testing.T) {
	s, g := begun(t)
	fold := func(w, a string, n int) string {
		all := a
		for range n - 1 {
			all = "(" + w + " " + all + " " + a + ")"
		}
		return all
	}
	heads := append(strings.Fields(operatorWords)[:37], "(_ extract 0 0)", "(_ zero_extend 0)", "(_ sign_extend 1)", "(_ rotate_left 0)", "(_ rotate_right 9)", "(_ repeat 1)")
	for _, head := range heads {
		for n := range 6 {
			a := "x"
			switch head {
			case "not", "and", "or", "xor", "=>", "ite":
				a = "p"
			}
			x := "(" + strings.TrimSpace(head+strings.Repeat(" "+a, n)) + ")"
			ok, want := n == 2, x
			switch head {
			case "not", "bvnot", "bvneg", "(_ extract 0 0)", "(_ zero_extend 0)", "(_ sign_extend 1)", "(_ rotate_left 0)", "(_ rotate_right 9)", "(_ repeat 1)":
				ok = n == 1
			case "ite":
				ok = n == 3
			case "and", "or", "xor", "bvand", "bvor", "bvxor", "bvadd", "bvmul", "concat":
				ok, want = n >= 2, fold(head, a, n)
			case "=>":
				ok, want = n >= 2, strings.Repeat("(=> p ", max(n-1, 0))+"p"+strings.Repeat(")", max(n-1, 0))
			case "=":
				ok, want = n >= 2, fold("and", "(= x x)", n-1)
			case "distinct":
				ok, want = n >= 2, fold("and", "(not (= x x))", n*(n-1)/2)
			}
			if ok {
				checkTerm(t, s, g, x, want)
			} else {
				checkRefused(t, s, x, api.ErrReadForm)
				// The number of operands is asked ahead of what they are.
				checkRefused(t, s, strings.ReplaceAll(x, " "+a, " 5"), api.ErrReadForm)
			}
		}
	}
	checkRefused(t, s, "((_ extract 0 0))", api.ErrReadForm)
}

func TestLongOperands(t *testing.T) {
	s, g := begun(t)
	for x, want := range map[string]string{
		"(and p q p true)":       "(and (and (and p q) p) true)",
		"(or p q p)":             "(or (or p q) p)",
		"(xor q p q)":            "(xor (xor q p) q)",
		"(=> p q true false)":    "(=> p (=> q (=> true false)))",
		"(= x y #x3)":            "(and (= x y) (= y #b0011))",
		"(= x y #x3 x)":          "(and (and (= x y) (= y #b0011)) (= #b0011 x))",
		"(= p q p)":              "(and (= p q) (= q p))",
		"(distinct x y)":         "(not (= x y))",
		"(distinct p q)":         "(not (= p q))",
		"(distinct x y #x3)":     "(and (and (not (= x y)) (not (= x #b0011))) (not (= y #b0011)))",
		"(distinct #x1 #x2 x y)": "(and (and (and (and (and (not (= #b0001 #b0010)) (not (= #b0001 x))) (not (= #b0001 y))) (not (= #b0010 x))) (not (= #b0010 y))) (not (= x y)))",
		"(bvadd x y #x1 #x2)":    "(bvadd (bvadd (bvadd x y) #b0001) #b0010)",
		"(bvmul x y #x1)":        "(bvmul (bvmul x y) #b0001)",
		"(bvand x y #x1)":        "(bvand (bvand x y) #b0001)",
		"(bvor x y #x1)":         "(bvor (bvor x y) #b0001)",
		"(bvxor x y #x1)":        "(bvxor (bvxor x y) #b0001)",
		"(concat x b y)":         "(concat (concat x b) y)",
		"(ite (= x y) p q)":      "(ite (= x y) p q)",
		"(not (not p))":          "(not (not p))",
	} {
		checkTerm(t, s, g, x, want)
	}
}

func TestNumbersInHeads(t *testing.T) {
	s, g := begun(t)
	for x, want := range map[string]string{
		"((_ extract 3 0) x)": "((_ extract 3 0) x)", "((_ extract 0 0) x)": "((_ extract 0 0) x)", "((_ extract 3 3) (bvnot x))": "((_ extract 3 3) (bvnot x))",
		"((_ zero_extend 0) x)": "((_ zero_extend 0) x)", "((_ zero_extend 124) x)": "((_ zero_extend 124) x)", "((_ sign_extend 10) x)": "((_ sign_extend 10) x)",
		"((_ rotate_left 0) x)": "((_ rotate_left 0) x)", "((_ rotate_left 999999999) x)": "((_ rotate_left 999999999) x)", "((_ rotate_right 4) x)": "((_ rotate_right 4) x)",
		"((_ repeat 1) x)": "((_ repeat 1) x)", "((_ repeat 32) x)": "((_ repeat 32) x)",
	} {
		checkTerm(t, s, g, x, want)
	}
	for x, want := range map[string]api.Errno{
		"((_ extract 2 01) x)": api.ErrReadWord, "((_ extract 02 1) x)": api.ErrReadWord, "((_ extract x 1) x)": api.ErrReadWord, "((_ extract 2 x) x)": api.ErrReadWord, "((_ extract (2) 1) x)": api.ErrReadWord,
		"((_ extract 2 (1)) x)": api.ErrReadWord, "((_ extract () ()) x)": api.ErrReadWord, "((_ extract -2 1) x)": api.ErrReadWord, "((_ extract |2| 1) x)": api.ErrReadWord, "((_ extract #b1 #b0) x)": api.ErrReadWord,
		"((_ repeat +1) x)": api.ErrReadWord, "((_ repeat 1_0) x)": api.ErrReadWord, "((_ repeat 1234567890) x)": api.ErrReadWord, "((_ rotate_left 1000000000) x)": api.ErrReadWord, "((_ zero_extend 00) x)": api.ErrReadWord, "((_ sign_extend 1x) x)": api.ErrReadWord,
		// A number ahead of the operands' number, that ahead of the operands, these ahead of making.
		"((_ extract 2 01))": api.ErrReadWord, "((_ extract 2 01) x x)": api.ErrReadWord, "((_ repeat (1)) z z)": api.ErrReadWord, "((_ repeat 0))": api.ErrReadForm, "((_ repeat 0) z 5)": api.ErrReadForm, "((_ repeat 0) z)": api.ErrReadName,
		"((_ extract 4 0) x)": api.ErrTermSort, "((_ extract 0 1) x)": api.ErrTermSort, "((_ extract 999999999 0) x)": api.ErrTermSort, "((_ extract 0 0) p)": api.ErrTermSort,
		"((_ zero_extend 1) p)": api.ErrTermSort, "((_ zero_extend 125) x)": api.ErrTermWidth, "((_ sign_extend 999999999) x)": api.ErrTermWidth, "((_ repeat 0) x)": api.ErrTermSort, "((_ repeat 33) x)": api.ErrTermWidth, "((_ repeat 999999999) x)": api.ErrTermWidth, "((_ rotate_left 1) q)": api.ErrTermSort,
		// Operators that haven't just so many numbers.
		"((_ extract 2) x)": api.ErrReadForm, "((_ extract) x)": api.ErrReadForm, "((_ extract 2 1 0) x)": api.ErrReadForm, "((_ extract 01) x)": api.ErrReadForm, "((_ repeat 1 1) x)": api.ErrReadForm, "((_ repeat) x)": api.ErrReadForm,
		"((_ zero_extend 1 2) x)": api.ErrReadForm, "((_ bvadd 1) x y)": api.ErrReadForm, "((_ bvadd) x y)": api.ErrReadForm, "((_ and) p q)": api.ErrReadForm, "((_ and 1 2) p q)": api.ErrReadForm, "((_ distinct 1) p q)": api.ErrReadForm,
		"(extract x)": api.ErrReadForm, "(repeat x)": api.ErrReadForm, "(extract 2 1 x)": api.ErrReadForm, "(zero_extend 5)": api.ErrReadForm, "(rotate_left)": api.ErrReadForm,
	} {
		checkRefused(t, s, x, want)
	}
}

func TestNoForms(t *testing.T) {
	s, _ := begun(t)
	for _, x := range []string{
		"()", "(())", "((x) y)", "((x))", "((and) p q)", "((and p) q)", "((_) x)", "((_ x) y)", "((_ sq 1) x)", "((_ sq) x)", "((_ bv5 4) x)", "((_ bv5 4))", "((_ let 1) x)", "((_ _ 1) x)",
		"((_ (extract) 2 1) x)", "((_ (repeat) 1) x)", "(((_) repeat 1) x)", "((|_| repeat 1) x)", "((_ |repeat| 1) x)", "((_ REPEAT 1) x)", "((repeat _ 1) x)", "((repeat 1) x)", "((let ((a x)) a) x)", "(((_ repeat 1) x) x)", "((true) x)", "((5))", "((:a) 5)",
	} {
		checkRefused(t, s, x, api.ErrReadForm)
	}
	for _, x := range []string{"(true)", "(true x)", "(false)", "(5)", "(5 x)", "(#b1)", "(#b1 z)", "(#q 5)", "(:a x)", "(1x)", "(:)"} {
		checkRefused(t, s, x, api.ErrReadWord)
	}
	for _, x := range []api.Sexp{{}, word(""), word("a b"), word("x "), word("("), word("true "), word("|x"), list(word("")), list(word("a b"), word("x")), list(word("and "), word("p"), word("q"))} {
		if id, e := s.Term(x); id != 0 || e != api.ErrReadWord {
			t.Errorf("P5.4: %#v: %d, %v", x, id, e)
		}
	}
}

// Whether a thing is a list is told by List alone.
func TestBesideTheForm(t *testing.T) {
	s, g := begun(t)
	junk := []api.Sexp{{Word: "5"}, {List: true}}
	odd := func(w string) api.Sexp { return api.Sexp{List: true, Word: w} }
	full := func(w string) api.Sexp { return api.Sexp{Word: w, Kids: junk} }
	named := func(kids ...api.Sexp) api.Sexp { return api.Sexp{Word: "5", List: true, Kids: kids} }
	checkSexp(t, s, g, full("x"), "x")
	checkSexp(t, s, g, full("#b1"), "#b1")
	checkSexp(t, s, g, named(full("bvadd"), full("x"), full("y")), "(bvadd x y)")
	checkSexp(t, s, g, named(named(full("_"), full("extract"), full("2"), full("1")), full("x")), "((_ extract 2 1) x)")
	checkSexp(t, s, g, named(full("_"), full("bv3"), full("4")), "#b0011")
	checkSexp(t, s, g, named(full("let"), named(named(full("x"), full("y"))), full("x")), "y")
	checkSexp(t, s, g, named(full("sq"), full("x")), "(bvmul x x)")
	for _, c := range []struct {
		x    api.Sexp
		want api.Errno
	}{
		{odd("x"), api.ErrReadForm}, {odd("true"), api.ErrReadForm}, {list(odd("and"), word("p"), word("q")), api.ErrReadForm}, {list(word("and"), odd("p"), word("q")), api.ErrReadForm},
		{list(odd("_"), word("bv3"), word("4")), api.ErrReadForm}, {list(word("_"), odd("bv3"), word("4")), api.ErrReadWord}, {list(word("_"), word("bv3"), odd("4")), api.ErrReadWord},
		{list(list(odd("_"), word("repeat"), word("1")), word("x")), api.ErrReadForm}, {list(list(word("_"), odd("repeat"), word("1")), word("x")), api.ErrReadForm}, {list(list(word("_"), word("repeat"), odd("1")), word("x")), api.ErrReadWord},
		{list(word("let"), list(list(odd("a"), word("x"))), word("x")), api.ErrReadForm}, {list(word("let"), odd("a"), word("x")), api.ErrReadForm},
		{list(word("let"), api.Sexp{Kids: []api.Sexp{list(word("a"), word("x"))}}, word("x")), api.ErrReadForm},
		{list(word("let"), list(api.Sexp{Kids: []api.Sexp{word("a"), word("x")}}), word("x")), api.ErrReadForm},
		{api.Sexp{Kids: []api.Sexp{word("and"), word("p"), word("q")}}, api.ErrReadWord},
	} {
		if id, e := s.Term(c.x); id != 0 || e != c.want {
			t.Errorf("P5.4: %#v: %d, %v; should be %v", c.x, id, e, c.want)
		}
	}
}

func TestLets(t *testing.T) {
	s, g := begun(t)
	for x, want := range map[string]string{
		"(let ((z (bvadd x x))) (bvult z x))":                       "(bvult (bvadd x x) x)",
		"(let ((x y) (y x)) (bvsub x y))":                           "(bvsub y x)",
		"(let ((x y)) (let ((x x)) x))":                             "y",
		"(let ((a x)) (let ((a y)) a))":                             "y",
		"(let ((a x)) (let ((b y)) (bvsub a b)))":                   "(bvsub x y)",
		"(let ((a (let ((a y)) (bvneg a)))) (bvsub a x))":           "(bvsub (bvneg y) x)",
		"(bvsub (let ((x y)) x) x)":                                 "(bvsub y x)",
		"(let ((x p)) (let ((y x) (x y)) (ite y x #x1)))":           "(ite p y #b0001)",
		"(let ((top y)) (bvsub top (top)))":                         "(bvsub y x)",
		"(let ((sq y)) (sq sq))":                                    "(bvmul y y)",
		"(let ((|let| x) (|| y)) (bvsub |let| ||))":                 "(bvsub x y)",
		"(let ((Bool x) (bv1 y) (BitVec p)) (ite BitVec Bool bv1))": "(ite p x y)",
		"(let ((x #b1)) x)":                                         "#b1",
		"(let ((a (bvneg x)) (b2 (bvneg x))) y)":                    "y",
		"(let ((a x)) (let ((b2 a)) (let ((c b2)) c)))":             "x",
	} {
		checkTerm(t, s, g, x, want)
	}
	for x, want := range map[string]api.Errno{
		"(let)": api.ErrReadForm, "(let x)": api.ErrReadForm, "(let () x)": api.ErrReadForm, "(let x y)": api.ErrReadForm, "(let ((a x)))": api.ErrReadForm, "(let ((a x)) a a)": api.ErrReadForm, "(let (a x) a)": api.ErrReadForm,
		"(let ((a)) x)": api.ErrReadForm, "(let (()) x)": api.ErrReadForm, "(let ((a x y)) x)": api.ErrReadForm, "(let ((a x) a) x)": api.ErrReadForm, "(let ((a x) ()) x)": api.ErrReadForm, "(let (((a) x)) x)": api.ErrReadForm, "(let ((() x)) x)": api.ErrReadForm, "(let (((a x))) x)": api.ErrReadForm,
		"(let ((and x)) x)": api.ErrReadWord, "(let ((5 x)) x)": api.ErrReadWord, "(let ((a x) (true y)) a)": api.ErrReadWord, "(let ((_ x)) x)": api.ErrReadWord, "(let ((let x)) x)": api.ErrReadWord, "(let ((#b1 x)) x)": api.ErrReadWord, "(let ((:a x)) x)": api.ErrReadWord,
		"(let ((a x) (a y)) a)": api.ErrReadTwice, "(let ((a z) (a 5)) a)": api.ErrReadTwice, "(let ((a x) (c y) (a x)) 5)": api.ErrReadTwice,
		// One kind of error ahead of the next one, over all bindings.
		"(let ((and x) (a x y)) x)": api.ErrReadForm, "(let ((a x) (a x) (and x) (a)) x)": api.ErrReadForm, "(let ((and x)) x x)": api.ErrReadForm, "(let ((a x) (a y) (and x)) a)": api.ErrReadWord, "(let ((a z) (5 z)) z)": api.ErrReadWord,
		"(let ((a z) (c 5)) ())": api.ErrReadName, "(let ((a x) (c 5)) ())": api.ErrReadWord, "(let ((a x) (c y)) ())": api.ErrReadForm,
		// A let's terms don't see its names, and what is behind it neither.
		"(let ((a x) (c a)) c)": api.ErrReadName, "(let ((a a)) a)": api.ErrReadName, "(bvadd (let ((a x)) a) a)": api.ErrReadName, "(bvadd a (let ((a x)) a))": api.ErrReadName, "(let ((a (let ((c x)) c))) c)": api.ErrReadName,
		"(let ((a x)) (a))": api.ErrReadName, "(let ((a x)) (a x))": api.ErrReadName, "(let ((x p)) (bvadd x y))": api.ErrTermSort, "(let ((|a| x)) a)": api.ErrReadName,
	} {
		checkRefused(t, s, x, want)
	}
}

func TestUses(t *testing.T) {
	s, g := begun(t)
	for x, want := range map[string]string{
		"(sq x)": "(bvmul x x)", "(sq (sq x))": "(bvmul (bvmul x x) (bvmul x x))", "top": "x", "(top)": "x", "(both p q)": "(and p q)", "(both q (both p p))": "(and q (and p p))",
		"(let ((x y)) top)": "x", "(let ((x y)) (top))": "x", "(let ((a y)) (sq a))": "(bvmul y y)", "(let ((a y)) (sq x))": "(bvmul x x)", "(both true false)": "(and true false)",
	} {
		checkTerm(t, s, g, x, want)
	}
	for x, want := range map[string]api.Errno{
		"z": api.ErrReadName, "a": api.ErrReadName, "|x|": api.ErrReadName, "bvadD": api.ErrReadName, "sq": api.ErrReadForm, "bad": api.ErrReadForm, "wrong": api.ErrReadSort, "(wrong)": api.ErrReadSort,
		"(z)": api.ErrReadName, "(x)": api.ErrReadName, "(x y)": api.ErrReadName, "(z 5 5)": api.ErrReadName, "(a x)": api.ErrReadName, "(|a b|)": api.ErrReadName, "(|sq| x)": api.ErrReadName,
		"(sq)": api.ErrReadForm, "(sq x y)": api.ErrReadForm, "(sq 5 5)": api.ErrReadForm, "(top x)": api.ErrReadForm, "(top 5)": api.ErrReadForm, "(wrong x)": api.ErrReadForm, "(both p)": api.ErrReadForm, "(both p q p)": api.ErrReadForm,
		"(both z 5)": api.ErrReadName, "(both 5 z)": api.ErrReadWord, "(both x 5)": api.ErrReadWord, "(both x z)": api.ErrReadName, "(both x q)": api.ErrReadSort, "(both p x)": api.ErrReadSort, "(sq p)": api.ErrReadSort, "(sq b)": api.ErrReadSort,
		"(bad p)": api.ErrReadSort, "(bad x)": api.ErrTermSort, "(sq (wrong))": api.ErrReadSort, "(bvadd wrong 5)": api.ErrReadSort, "(bvadd 5 wrong)": api.ErrReadWord,
	} {
		checkRefused(t, s, x, want)
	}
}

// The first error is that of the operand farthest left.
func TestOrderOfOperands(t *testing.T) {
	s, _ := begun(t)
	errors := []struct {
		x    string
		want api.Errno
	}{{"5", api.ErrReadWord}, {"z", api.ErrReadName}, {"(let ((a x) (a x)) a)", api.ErrReadTwice}, {"wrong", api.ErrReadSort}, {"()", api.ErrReadForm}, {"(bvadd x b)", api.ErrTermSort}, {"(_ bv1 0)", api.ErrTermWidth}}
	for _, a := range errors {
		for _, b := range errors {
			for _, form := range []string{"(bvadd x %s %s)", "(concat %s x %s)", "(= %s p %s)", "(=> %s %s p)", "(distinct x p %s %s)", "(ite x %s %s)", "(let ((a x) (b %s) (c %s)) a)", "(let ((a %s)) %s)", "(both %s %s)"} {
				checkRefused(t, s, fmt.Sprintf(form, a.x, b.x), a.want)
			}
			checkRefused(t, s, fmt.Sprintf("(not %s)", a.x), a.want)
			checkRefused(t, s, fmt.Sprintf("((_ repeat 0) %s)", a.x), a.want)
			checkRefused(t, s, fmt.Sprintf("(not %s %s)", a.x, b.x), api.ErrReadForm)
		}
	}
}

// Making's errors come behind all operands'.
func TestSortsAtMaking(t *testing.T) {
	s, _ := begun(t)
	for x, want := range map[string]api.Errno{
		"(and p x)": api.ErrTermSort, "(and x p)": api.ErrTermSort, "(and p q x)": api.ErrTermSort, "(and x p 5)": api.ErrReadWord, "(not x)": api.ErrTermSort, "(=> x p q)": api.ErrTermSort, "(=> p q x)": api.ErrTermSort, "(xor p b)": api.ErrTermSort,
		"(= x p)": api.ErrTermSort, "(= x y b)": api.ErrTermSort, "(= b x y)": api.ErrTermSort, "(distinct x p)": api.ErrTermSort, "(distinct x y b)": api.ErrTermSort, "(distinct b x y)": api.ErrTermSort, "(ite p x b)": api.ErrTermSort, "(ite x x y)": api.ErrTermSort,
		"(bvadd x b)": api.ErrTermSort, "(bvadd p q)": api.ErrTermSort, "(bvnot p)": api.ErrTermSort, "(bvult x b)": api.ErrTermSort, "(bvcomp p q)": api.ErrTermSort, "(concat x p)": api.ErrTermSort,
		"(concat ((_ repeat 32) x) b)": api.ErrTermWidth, "(concat ((_ repeat 31) x) x b)": api.ErrTermWidth, "(concat ((_ repeat 32) x) p)": api.ErrTermSort,
	} {
		checkRefused(t, s, x, want)
	}
}
