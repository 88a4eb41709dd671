package rewrite_test

import (
	"math/rand"
	"testing"

	"plait/api"
	"plait/bv"
	"plait/rewrite"
	"plait/term"
)

// due: what rule 5 says of a node: another node (id), or a constant (v), or nothing.
type due struct {
	any bool
	id  int
	v   api.Bits
}

func toNode(id int) due { return due{any: true, id: id} }

func toValue(v api.Bits) due { return due{any: true, v: v} }

// isNumber tells whether a node is a constant of a number, 0 or 1; of Bools false and true.
func isNumber(g *term.Graph, id int, k uint64) bool {
	n, _ := g.Node(id)
	return n.Op == api.OpConst && n.V == api.Bits{W: n.Sort, Lo: k}
}

// dueOf is rule 5 as the document writes it, row by row.
func dueOf(g *term.Graph, n api.Node) due {
	for _, row := range []func(*term.Graph, api.Node) due{dueOfNumbers, dueOfSame, dueOfOthers} {
		if d := row(g, n); d.any {
			return d
		}
	}
	return due{}
}

func dueOfNumbers(g *term.Graph, n api.Node) due {
	zeroA, zeroB, oneA, oneB := isNumber(g, n.A, 0), isNumber(g, n.B, 0), isNumber(g, n.A, 1), isNumber(g, n.B, 1)
	zero := toValue(api.Bits{W: n.Sort})
	switch n.Op {
	case api.OpBvAnd:
		if zeroA || zeroB {
			return zero
		}
	case api.OpBvMul:
		switch {
		case zeroA || zeroB:
			return zero
		case oneA:
			return toNode(n.B)
		case oneB:
			return toNode(n.A)
		}
	case api.OpBvShl, api.OpBvLshr, api.OpBvAshr:
		switch {
		case zeroA:
			return zero
		case zeroB:
			return toNode(n.A)
		}
	case api.OpBvOr, api.OpBvXor, api.OpBvAdd:
		switch {
		case zeroA:
			return toNode(n.B)
		case zeroB:
			return toNode(n.A)
		}
	case api.OpBvSub:
		if zeroB {
			return toNode(n.A)
		}
	case api.OpBvUdiv:
		if oneB {
			return toNode(n.A)
		}
	}
	return due{}
}

func dueOfSame(g *term.Graph, n api.Node) due {
	if n.A != n.B {
		return due{}
	}
	switch n.Op {
	case api.OpBvAnd, api.OpBvOr, api.OpAnd, api.OpOr:
		return toNode(n.A)
	case api.OpBvXor, api.OpBvSub:
		return toValue(api.Bits{W: n.Sort})
	case api.OpEq, api.OpUle, api.OpUge, api.OpSle, api.OpSge:
		return toValue(bv.Bool(true))
	case api.OpUlt, api.OpUgt, api.OpSlt, api.OpSgt, api.OpXor:
		return toValue(bv.Bool(false))
	}
	return due{}
}

func dueOfOthers(g *term.Graph, n api.Node) due {
	within, _ := g.Node(n.A)
	switch n.Op {
	case api.OpNot, api.OpBvNot, api.OpBvNeg:
		if within.Op == n.Op {
			return toNode(within.A)
		}
	case api.OpAnd, api.OpOr:
		return dueOfBools(g, n)
	case api.OpIte:
		switch {
		case isNumber(g, n.A, 1) || n.B == n.C:
			return toNode(n.B)
		case isNumber(g, n.A, 0):
			return toNode(n.C)
		}
	case api.OpExtract:
		if n.P == within.Sort-1 && n.Q == 0 {
			return toNode(n.A)
		}
	case api.OpZext, api.OpSext, api.OpRotl, api.OpRotr:
		if n.P == 0 {
			return toNode(n.A)
		}
	case api.OpRepeat:
		if n.P == 1 {
			return toNode(n.A)
		}
	}
	return due{}
}

// dueOfBools: what decides an OpAnd is false, an OpOr true; the other Bool leaves what stands beside it.
func dueOfBools(g *term.Graph, n api.Node) due {
	decides := uint64(0)
	if n.Op == api.OpOr {
		decides = 1
	}
	switch {
	case isNumber(g, n.A, decides) || isNumber(g, n.B, decides):
		return toValue(api.Bits{Lo: decides})
	case isNumber(g, n.A, 1-decides):
		return toNode(n.B)
	case isNumber(g, n.B, 1-decides):
		return toNode(n.A)
	}
	return due{}
}

func (d due) holds(g *term.Graph, s int) bool {
	if d.id > 0 {
		return s == d.id
	}
	n, _ := g.Node(s)
	return n.Op == api.OpConst && n.V == d.v
}

// isSimplified tells whether Simplify of it is it.
func isSimplified(g *term.Graph, id int) bool {
	if id == 0 {
		return true // no operand
	}
	s, e := rewrite.Simplify(g, id)
	return s == id && e == api.OK
}

// checkRows holds a node against rule 5, if its operands are simplified, and tells whether it says anything of it.
func checkRows(t *testing.T, g *term.Graph, id int) bool {
	t.Helper()
	n, _ := g.Node(id)
	d := dueOf(g, n)
	if !d.any || !isSimplified(g, n.A) || !isSimplified(g, n.B) || !isSimplified(g, n.C) {
		return false
	}
	if s, e := rewrite.Simplify(g, id); e != api.OK || !d.holds(g, s) {
		t.Fatalf("P7.2, 5: %s: %s, %v; wanted node %d or value %v", text(g, id), text(g, s), e, d.id, d.v)
	}
	return true
}

// operandsOf are simplified terms of a width, and of Bool.
func operandsOf(t *testing.T, g *term.Graph, w int) (words, bools []int) {
	t.Helper()
	x, y := variable(t, g, "x", w), variable(t, g, "y", w)
	p, q := variable(t, g, "p", 0), variable(t, g, "q", 0)
	words = []int{
		x,
		mustMake(t, g, api.Node{Op: api.OpBvSdiv, A: x, B: y}),
		mustMake(t, g, api.Node{Op: api.OpBvNeg, A: y}),
		mustMake(t, g, api.Node{Op: api.OpIte, A: p, B: y, C: x}),
	}
	bools = []int{
		p,
		mustMake(t, g, api.Node{Op: api.OpImplies, A: p, B: q}),
		mustMake(t, g, api.Node{Op: api.OpNot, A: q}),
		mustMake(t, g, api.Node{Op: api.OpSlt, A: x, B: y}),
	}
	for _, id := range append(append([]int{}, words...), bools...) {
		if !isSimplified(g, id) {
			t.Fatalf("P7.2: %s isn't simplified", text(g, id))
		}
	}
	return words, bools
}

var rowWidths = []int{1, 2, 4, 63, 64, 65, 127, 128}

// check asks for one row: which node, or which value, comes of a node.
func check(t *testing.T, g *term.Graph, n api.Node, want due) {
	t.Helper()
	id := mustMake(t, g, n)
	if s, e := rewrite.Simplify(g, id); e != api.OK || !want.holds(g, s) {
		t.Errorf("P7.2, 5: %s: %s, %v; wanted node %d or value %v", text(g, id), text(g, s), e, want.id, want.v)
	}
}

func TestRowsOfNumbers(t *testing.T) {
	for _, w := range rowWidths {
		g := term.New(api.MaxTerms)
		words, _ := operandsOf(t, g, w)
		zero, one := constant(t, g, api.Bits{W: w}), constant(t, g, api.Bits{W: w, Lo: 1})
		for _, x := range words {
			for _, op := range []int{api.OpBvAnd, api.OpBvMul} {
				check(t, g, api.Node{Op: op, A: x, B: zero}, toNode(zero))
				check(t, g, api.Node{Op: op, A: zero, B: x}, toNode(zero))
			}
			for _, op := range []int{api.OpBvShl, api.OpBvLshr, api.OpBvAshr} {
				check(t, g, api.Node{Op: op, A: zero, B: x}, toNode(zero))
				check(t, g, api.Node{Op: op, A: x, B: zero}, toNode(x))
			}
			for _, op := range []int{api.OpBvOr, api.OpBvXor, api.OpBvAdd} {
				check(t, g, api.Node{Op: op, A: x, B: zero}, toNode(x))
				check(t, g, api.Node{Op: op, A: zero, B: x}, toNode(x))
			}
			check(t, g, api.Node{Op: api.OpBvSub, A: x, B: zero}, toNode(x))
			check(t, g, api.Node{Op: api.OpBvMul, A: x, B: one}, toNode(x))
			check(t, g, api.Node{Op: api.OpBvMul, A: one, B: x}, toNode(x))
			check(t, g, api.Node{Op: api.OpBvUdiv, A: x, B: one}, toNode(x))
		}
	}
}

func TestRowsOfTheSameTwice(t *testing.T) {
	for _, w := range rowWidths {
		g := term.New(api.MaxTerms)
		words, bools := operandsOf(t, g, w)
		for _, x := range words {
			for _, op := range []int{api.OpBvAnd, api.OpBvOr} {
				check(t, g, api.Node{Op: op, A: x, B: x}, toNode(x))
			}
			for _, op := range []int{api.OpBvXor, api.OpBvSub} {
				check(t, g, api.Node{Op: op, A: x, B: x}, toValue(api.Bits{W: w}))
			}
			for _, op := range []int{api.OpEq, api.OpUle, api.OpUge, api.OpSle, api.OpSge} {
				check(t, g, api.Node{Op: op, A: x, B: x}, toValue(bv.Bool(true)))
			}
			for _, op := range []int{api.OpUlt, api.OpUgt, api.OpSlt, api.OpSgt} {
				check(t, g, api.Node{Op: op, A: x, B: x}, toValue(bv.Bool(false)))
			}
		}
		for _, p := range bools {
			check(t, g, api.Node{Op: api.OpAnd, A: p, B: p}, toNode(p))
			check(t, g, api.Node{Op: api.OpOr, A: p, B: p}, toNode(p))
			check(t, g, api.Node{Op: api.OpEq, A: p, B: p}, toValue(bv.Bool(true)))
			check(t, g, api.Node{Op: api.OpXor, A: p, B: p}, toValue(bv.Bool(false)))
		}
	}
}

func TestRowsOfTurningTwice(t *testing.T) {
	for _, w := range rowWidths {
		g := term.New(api.MaxTerms)
		words, bools := operandsOf(t, g, w)
		twice := func(op, x int) {
			once := mustMake(t, g, api.Node{Op: op, A: x})
			if isSimplified(g, once) { // else x is one turned, and once isn't what the row speaks of
				check(t, g, api.Node{Op: op, A: once}, toNode(x))
			}
		}
		for _, x := range words {
			twice(api.OpBvNot, x)
			twice(api.OpBvNeg, x)
		}
		for _, p := range bools {
			twice(api.OpNot, p)
		}
		not := mustMake(t, g, api.Node{Op: api.OpBvNot, A: words[0]})
		mixed := mustMake(t, g, api.Node{Op: api.OpBvNeg, A: not})
		simplified(t, g, mixed, wideAssignments(w))
	}
}

func TestRowsOfBools(t *testing.T) {
	g := term.New(api.MaxTerms)
	words, bools := operandsOf(t, g, 4)
	no, yes := constant(t, g, bv.Bool(false)), constant(t, g, bv.Bool(true))
	for _, p := range bools {
		for _, x := range []struct{ op, with, want int }{
			{api.OpAnd, yes, p}, {api.OpAnd, no, no}, {api.OpOr, yes, yes}, {api.OpOr, no, p},
		} {
			check(t, g, api.Node{Op: x.op, A: p, B: x.with}, toNode(x.want))
			check(t, g, api.Node{Op: x.op, A: x.with, B: p}, toNode(x.want))
		}
		for _, l := range [][]int{words, bools} {
			check(t, g, api.Node{Op: api.OpIte, A: yes, B: l[0], C: l[1]}, toNode(l[0]))
			check(t, g, api.Node{Op: api.OpIte, A: no, B: l[0], C: l[1]}, toNode(l[1]))
			check(t, g, api.Node{Op: api.OpIte, A: p, B: l[1], C: l[1]}, toNode(l[1]))
			check(t, g, api.Node{Op: api.OpIte, A: yes, B: l[1], C: l[1]}, toNode(l[1]))
		}
	}
}

func TestRowsOfWholeWords(t *testing.T) {
	for _, w := range rowWidths {
		g := term.New(api.MaxTerms)
		words, _ := operandsOf(t, g, w)
		for _, x := range words {
			check(t, g, api.Node{Op: api.OpExtract, A: x, P: w - 1}, toNode(x))
			for _, op := range []int{api.OpZext, api.OpSext, api.OpRotl, api.OpRotr} {
				check(t, g, api.Node{Op: op, A: x}, toNode(x))
			}
			check(t, g, api.Node{Op: api.OpRepeat, A: x, P: 1}, toNode(x))
		}
	}
}

func TestRowsByChance(t *testing.T) {
	rows := 0
	for seed := range int64(150) {
		w := []int{1, 2, 3, 64, 100}[seed%5]
		g := someGraph(t, rand.New(rand.NewSource(seed)), w, 150)
		for id := g.Len(); id > 0; id-- {
			if checkRows(t, g, id) {
				rows++
			}
		}
	}
	if rows < 1000 {
		t.Errorf("only %d nodes that rule 5 speaks of", rows)
	}
}
