package eval

import (
	"plait/api"
	"plait/bv"
	"plait/term"
)

// Apply does an operator on values.
func Apply(op, p, q int, l []api.Bits) (api.Bits, api.Errno) {
	if _, e := term.Sort(op, p, q, sortsOf(l)); e != api.OK {
		return api.Bits{}, e
	}
	return meaningOf(op, p, q).of(l)
}

// sortsOf has -1, which is no sort, for a value that isn't right: it is refused just where another sort would be.
func sortsOf(l []api.Bits) []int {
	sorts := make([]int, 0, len(l))
	for _, v := range l {
		if bv.Right(v) {
			sorts = append(sorts, v.W)
		} else {
			sorts = append(sorts, -1)
		}
	}
	return sorts
}

// meaning: what an operator does on values that fit it.
type meaning struct {
	of func(l []api.Bits) (api.Bits, api.Errno)
}

func meaningOf(op, p, q int) meaning {
	switch op {
	case api.OpNot:
		return meaning{not}
	case api.OpAnd:
		return ofTwoBools(func(a, b bool) bool { return a && b })
	case api.OpOr:
		return ofTwoBools(func(a, b bool) bool { return a || b })
	case api.OpXor:
		return ofTwoBools(func(a, b bool) bool { return a != b })
	case api.OpImplies:
		return ofTwoBools(func(a, b bool) bool { return !a || b })
	case api.OpEq:
		return meaning{same}
	case api.OpIte:
		return meaning{choose}
	case api.OpBvNot, api.OpBvNeg:
		return meaning{func(l []api.Bits) (api.Bits, api.Errno) { return bv.One(op, l[0]) }}
	case api.OpConcat:
		return meaning{func(l []api.Bits) (api.Bits, api.Errno) { return bv.Concat(l[0], l[1]) }}
	case api.OpExtract:
		return meaning{func(l []api.Bits) (api.Bits, api.Errno) { return bv.Extract(l[0], p, q) }}
	case api.OpZext, api.OpSext:
		return meaning{func(l []api.Bits) (api.Bits, api.Errno) { return bv.Extend(l[0], p, op == api.OpSext) }}
	case api.OpRotl, api.OpRotr:
		return meaning{func(l []api.Bits) (api.Bits, api.Errno) { return bv.Rotate(l[0], p, op == api.OpRotl) }}
	case api.OpRepeat:
		return meaning{func(l []api.Bits) (api.Bits, api.Errno) { return bv.Repeat(l[0], p) }}
	}
	return meaning{func(l []api.Bits) (api.Bits, api.Errno) { return bv.Two(op, l[0], l[1]) }}
}

func ofTwoBools(f func(a, b bool) bool) meaning {
	return meaning{func(l []api.Bits) (api.Bits, api.Errno) {
		return bv.Bool(f(isTrue(l[0]), isTrue(l[1]))), api.OK
	}}
}

func not(l []api.Bits) (api.Bits, api.Errno) { return bv.Bool(!isTrue(l[0])), api.OK }

// same goes for Bools and for words: two right values of one sort are the same just where all their fields are.
func same(l []api.Bits) (api.Bits, api.Errno) { return bv.Bool(l[0] == l[1]), api.OK }

func choose(l []api.Bits) (api.Bits, api.Errno) {
	if isTrue(l[0]) {
		return l[1], api.OK
	}
	return l[2], api.OK
}

func isTrue(v api.Bits) bool { return v == bv.Bool(true) }
