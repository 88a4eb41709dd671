package rewrite

import (
	"plait/api"
	"plait/bv"
)

// outcome: what a rule makes of a node with two operands.
type outcome int

const (
	stays   outcome = iota // there is no rule
	toOther                // the other operand; of two that are the same: it
	toZeros                // 0, or false
	toOnes                 // all bits 1, or true
)

// beside: the rules of a constant that stands on one side of an operator.
type beside struct {
	zero, one, ones outcome
}

// of tells the constant's rule. The word of one bit that is 1 is all bits 1, too.
func (b beside) of(v api.Bits) outcome {
	switch {
	case v == zeros(v.W):
		return b.zero
	case v == api.Bits{W: v.W, Lo: 1} && b.one != stays:
		return b.one
	case v == ones(v.W):
		return b.ones
	}
	return stays
}

// tags: the rules of an operator with two operands.
type tags struct {
	same        outcome // of operands that are the same
	left, right beside
}

// either is for operators that mean the same with their operands swapped.
func either(same outcome, b beside) tags { return tags{same: same, left: b, right: b} }

func tagsOf(op int) tags {
	switch op {
	case api.OpAnd, api.OpBvAnd:
		return either(toOther, beside{zero: toZeros, ones: toOther})
	case api.OpOr, api.OpBvOr:
		return either(toOther, beside{zero: toOther, ones: toOnes})
	case api.OpXor, api.OpBvXor:
		return either(toZeros, beside{zero: toOther})
	case api.OpBvNand:
		return either(stays, beside{zero: toOnes})
	case api.OpBvNor:
		return either(stays, beside{ones: toZeros})
	case api.OpBvXnor:
		return either(toOnes, beside{ones: toOther})
	case api.OpImplies:
		return tags{same: toOnes, left: beside{zero: toOnes, ones: toOther}, right: beside{ones: toOnes}}
	case api.OpEq, api.OpComp:
		return either(toOnes, beside{})
	}
	return arithmeticTags(op)
}

func arithmeticTags(op int) tags {
	switch op {
	case api.OpBvAdd:
		return either(stays, beside{zero: toOther})
	case api.OpBvSub:
		return tags{same: toZeros, right: beside{zero: toOther}}
	case api.OpBvMul:
		return either(stays, beside{zero: toZeros, one: toOther})
	case api.OpBvUdiv:
		return tags{right: beside{zero: toOnes, one: toOther}}
	case api.OpBvSdiv:
		return tags{right: beside{one: toOther}}
	case api.OpBvUrem, api.OpBvSrem, api.OpBvSmod:
		return tags{same: toZeros, left: beside{zero: toZeros}, right: beside{zero: toOther, one: toZeros}}
	case api.OpBvShl, api.OpBvLshr:
		return tags{left: beside{zero: toZeros}, right: beside{zero: toOther}}
	case api.OpBvAshr:
		return tags{left: beside{zero: toZeros, ones: toOnes}, right: beside{zero: toOther}}
	}
	return orderTags(op)
}

func orderTags(op int) tags {
	switch op {
	case api.OpUlt:
		return tags{same: toZeros, left: beside{ones: toZeros}, right: beside{zero: toZeros}}
	case api.OpUle:
		return tags{same: toOnes, left: beside{zero: toOnes}, right: beside{ones: toOnes}}
	case api.OpUgt:
		return tags{same: toZeros, left: beside{zero: toZeros}, right: beside{ones: toZeros}}
	case api.OpUge:
		return tags{same: toOnes, left: beside{ones: toOnes}, right: beside{zero: toOnes}}
	case api.OpSlt, api.OpSgt:
		return tags{same: toZeros}
	case api.OpSle, api.OpSge:
		return tags{same: toOnes}
	}
	return tags{}
}

// rule tells whether a rule holds of a node whose operands are simplified and not all constants, and what comes of it.
func (w *walk) rule(n api.Node) (int, bool) {
	switch n.Op {
	case api.OpNot, api.OpBvNot, api.OpBvNeg:
		within := w.node(n.A)
		return within.A, within.Op == n.Op
	case api.OpIte:
		return w.choice(n)
	case api.OpExtract:
		return w.extract(n)
	case api.OpZext, api.OpSext:
		return n.A, n.P == 0
	case api.OpRotl, api.OpRotr:
		return n.A, n.P%n.Sort == 0
	case api.OpRepeat:
		return n.A, n.P == 1
	}
	return w.pair(n)
}

func (w *walk) choice(n api.Node) (int, bool) {
	if n.B == n.C {
		return n.B, true
	}
	v, ok := w.value(n.A)
	if !ok {
		return 0, false
	}
	if v == bv.Bool(true) {
		return n.B, true
	}
	return n.C, true
}

// extract looks for the part of the operand in which all of the bits lie.
func (w *walk) extract(n api.Node) (int, bool) {
	within := w.node(n.A)
	if n.Sort == within.Sort {
		return n.A, true
	}
	switch within.Op {
	case api.OpExtract:
		return w.extractOf(n, within.A, within.Q), true
	case api.OpConcat:
		low := w.node(within.B).Sort
		if n.P < low {
			return w.extractOf(n, within.B, 0), true
		}
		if n.Q >= low {
			return w.extractOf(n, within.A, -low), true
		}
	}
	return 0, false
}

// extractOf tells the same bits, taken of a part in which their places are higher by so many.
func (w *walk) extractOf(n api.Node, part, by int) int {
	n.A, n.P, n.Q = part, n.P+by, n.Q+by
	return w.build(n)
}

func (w *walk) pair(n api.Node) (int, bool) {
	t := tagsOf(n.Op)
	if n.A == n.B {
		return w.come(t.same, n.A, n.Sort)
	}
	if v, ok := w.value(n.A); ok {
		return w.come(t.left.of(v), n.B, n.Sort)
	}
	if v, ok := w.value(n.B); ok {
		return w.come(t.right.of(v), n.A, n.Sort)
	}
	return 0, false
}

// come tells what comes of a node of a sort by an outcome.
func (w *walk) come(o outcome, other, sort int) (int, bool) {
	switch o {
	case toOther:
		return other, true
	case toZeros:
		return w.constant(zeros(sort)), true
	case toOnes:
		return w.constant(ones(sort)), true
	}
	return 0, false
}
