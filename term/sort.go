package term

import "plait/api"

// Sort tells a term's sort by its operands'.
func Sort(op, p, q int, sorts []int) (int, api.Errno) {
	arity := Arity(op)
	if arity < 1 {
		return 0, api.ErrTermOp
	}
	if len(sorts) != arity || !areSorts(sorts) || !operandsFit(op, sorts) || !numbersFit(op, p, q, sorts[0]) {
		return 0, api.ErrTermSort
	}
	s := answered(op, p, q, sorts)
	if s > api.MaxWidth {
		return 0, api.ErrTermWidth
	}
	return s, api.OK
}

// Arity tells how many operands an operator has.
func Arity(op int) int {
	if op < api.OpConst || op > api.OpRepeat {
		return -1
	}
	switch op {
	case api.OpConst, api.OpVar:
		return 0
	case api.OpNot, api.OpBvNot, api.OpBvNeg, api.OpExtract, api.OpZext, api.OpSext, api.OpRotl, api.OpRotr, api.OpRepeat:
		return 1
	case api.OpIte:
		return 3
	}
	return 2
}

func isSort(s int) bool { return s >= 0 && s <= api.MaxWidth }

func areSorts(l []int) bool {
	for _, s := range l {
		if !isSort(s) {
			return false
		}
	}
	return true
}

// operandsFit asks for as many sorts as the operator has operands.
func operandsFit(op int, sorts []int) bool {
	switch op {
	case api.OpNot, api.OpAnd, api.OpOr, api.OpXor, api.OpImplies:
		return sorts[0] == 0 && alike(sorts)
	case api.OpEq:
		return alike(sorts)
	case api.OpIte:
		return sorts[0] == 0 && alike(sorts[1:])
	case api.OpConcat:
		return sorts[0] != 0 && sorts[1] != 0
	}
	return sorts[0] != 0 && alike(sorts)
}

func alike(sorts []int) bool {
	for _, s := range sorts {
		if s != sorts[0] {
			return false
		}
	}
	return true
}

// numbersFit tells whether p and q may stand with an operator whose first operand's sort is w.
func numbersFit(op, p, q, w int) bool {
	switch op {
	case api.OpExtract:
		return w > p && p >= q && q >= 0
	case api.OpZext, api.OpSext, api.OpRotl, api.OpRotr:
		return p >= 0 && q == 0
	case api.OpRepeat:
		return p >= 1 && q == 0
	}
	return p == 0 && q == 0
}

// answered asks for sorts and numbers that fit; it is above MaxWidth where the term would be too wide.
func answered(op, p, q int, sorts []int) int {
	// With one more than MaxWidth a sum or a product is too wide already; with p itself it may wrap round.
	few := min(p, api.MaxWidth+1)
	switch op {
	case api.OpEq, api.OpUlt, api.OpUle, api.OpUgt, api.OpUge, api.OpSlt, api.OpSle, api.OpSgt, api.OpSge:
		return 0
	case api.OpIte:
		return sorts[1]
	case api.OpComp:
		return 1
	case api.OpConcat:
		return sorts[0] + sorts[1]
	case api.OpExtract:
		return p - q + 1
	case api.OpZext, api.OpSext:
		return sorts[0] + few
	case api.OpRepeat:
		return sorts[0] * few
	}
	return sorts[0]
}
