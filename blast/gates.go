package blast

import (
	"plait/aig"
	"plait/api"
)

// gates lays ands into a graph. Once the graph refuses one, no more are laid, and what is told is of no use: whoever asks for circuits looks at refused when all is laid, and not at each gate.
type gates struct {
	graph   *aig.Graph
	refused api.Errno
}

func (g *gates) and(a, b int) int {
	if g.refused != api.OK {
		return no
	}
	l, e := g.graph.And(a, b)
	g.refused = e
	return l
}

func (g *gates) or(a, b int) int {
	return turn(g.and(turn(a), turn(b)))
}

// xor is laid of literals that aren't turned, and turned behind it: so unlike and alike are one circuit. It goes by the and of both, which an adder needs too.
func (g *gates) xor(a, b int) int {
	turned := (a ^ b) & 1
	a, b = a&^1, b&^1
	return g.and(turn(g.and(a, b)), g.or(a, b)) ^ turned
}

// mux tells a, if c, else b.
func (g *gates) mux(c, a, b int) int {
	a, b = given(a, c), given(b, turn(c))
	switch {
	case a == b:
		return a
	case a == turn(b):
		return g.xor(c, b)
	case a == yes:
		return g.or(c, b)
	case a == no:
		return g.and(turn(c), b)
	case b == yes:
		return g.or(turn(c), a)
	case b == no:
		return g.and(c, a)
	}
	// Turned ahead and behind, so that a choice and its opposite are one circuit.
	turned := a & 1
	return g.or(g.and(c, a^turned), g.and(turn(c), b^turned)) ^ turned
}

// given tells a literal of l's value wherever c is true.
func given(l, c int) int {
	switch l {
	case c:
		return yes
	case turn(c):
		return no
	}
	return l
}

// majority tells whether two of three are true, at least.
func (g *gates) majority(a, b, c int) int {
	switch {
	case a == b:
		return a
	case c == no:
		return g.and(a, b)
	}
	return g.or(g.and(a, b), g.and(g.or(a, b), c))
}

// carry is majority where half, the xor of a and b, is laid already.
func (g *gates) carry(a, b, half, c int) int {
	// Of all three turned, the majority is turned. So half and c come to be both turned or both not: their and is one that their xor has laid.
	if (half^c)&1 == 1 {
		return turn(g.carry(turn(a), turn(b), half, turn(c)))
	}
	return g.or(g.and(a, b), g.and(half, c))
}

// paired tells all three, first two that are both turned or both not: their and is one that their xor has laid.
func paired(a, b, c int) (int, int, int) {
	switch {
	case (a^b)&1 == 0:
		return a, b, c
	case (a^c)&1 == 0:
		return a, c, b
	}
	return b, c, a
}

// any tells whether one of them is true, at least.
func (g *gates) any(l word) int {
	one := no
	// The highest first: parts of a word that end with it share what they have in common.
	for i := range l {
		one = g.or(one, l[len(l)-1-i])
	}
	return one
}
