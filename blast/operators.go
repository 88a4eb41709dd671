package blast

import (
	"plait/api"
	"plait/term"
)

// circuit lays that of a node with these operands, and tells the literals of its bits.
func (g *gates) circuit(n api.Node, a, b, c word) word {
	switch term.Arity(n.Op) {
	case 1:
		return g.ofOne(n.Op)(a, n.P, n.Q)
	case 2:
		return g.ofTwo(n.Op)(a, b)
	case 3:
		return g.choice(a[0], b, c)
	}
	return constant(n.V)
}

// ofOne tells the circuit of an operator of one operand.
func (g *gates) ofOne(op int) func(a word, p, q int) word {
	switch op {
	case api.OpBvNeg:
		return g.negation
	case api.OpExtract:
		return g.extraction
	case api.OpZext:
		return g.zeroExtension
	case api.OpSext:
		return g.signExtension
	case api.OpRotl:
		return g.rotationUp
	case api.OpRotr:
		return g.rotationDown
	case api.OpRepeat:
		return g.repetition
	}
	return g.complement
}

// ofTwo tells the circuit of an operator of two operands.
func (g *gates) ofTwo(op int) func(a, b word) word {
	switch {
	case op >= api.OpBvAdd && op <= api.OpBvAshr:
		return g.arithmetic(op)
	case op >= api.OpUlt && op <= api.OpSge:
		return g.comparison(op)
	}
	switch op {
	case api.OpAnd, api.OpBvAnd:
		return g.both
	case api.OpOr, api.OpBvOr:
		return g.either
	case api.OpXor, api.OpBvXor:
		return g.unlike
	case api.OpImplies:
		return g.implied
	case api.OpBvNand:
		return g.notBoth
	case api.OpBvNor:
		return g.neither
	case api.OpBvXnor:
		return g.like
	case api.OpConcat:
		return g.joined
	}
	return g.same
}

func (g *gates) arithmetic(op int) func(a, b word) word {
	switch op {
	case api.OpBvAdd:
		return g.sum
	case api.OpBvSub:
		return g.difference
	case api.OpBvMul:
		return g.product
	case api.OpBvUdiv:
		return g.quotient
	case api.OpBvUrem:
		return g.rest
	case api.OpBvSdiv:
		return g.signedQuotient
	case api.OpBvSrem:
		return g.signedRest
	case api.OpBvSmod:
		return g.signedModulus
	case api.OpBvShl:
		return g.shiftUp
	case api.OpBvLshr:
		return g.shiftDown
	}
	return g.signedShiftDown
}

func (g *gates) comparison(op int) func(a, b word) word {
	switch op {
	case api.OpUlt:
		return g.less
	case api.OpUle:
		return g.atMost
	case api.OpUgt:
		return g.greater
	case api.OpUge:
		return g.atLeast
	case api.OpSlt:
		return g.signedLess
	case api.OpSle:
		return g.signedAtMost
	case api.OpSgt:
		return g.signedGreater
	}
	return g.signedAtLeast
}
