package bv

import (
	"math/bits"

	"plait/api"
)

// One does an operator on one word.
func One(op int, a api.Bits) (api.Bits, api.Errno) {
	if !isWord(a) {
		return api.Bits{}, api.ErrBvWidth
	}
	switch op {
	case api.OpBvNot:
		return turn(a), api.OK
	case api.OpBvNeg:
		return negate(a), api.OK
	}
	return api.Bits{}, api.ErrBvOp
}

// Two does one on two.
func Two(op int, a, b api.Bits) (api.Bits, api.Errno) {
	if !isWord(a) || !isWord(b) || a.W != b.W {
		return api.Bits{}, api.ErrBvWidth
	}
	switch op {
	case api.OpBvAnd, api.OpBvOr, api.OpBvXor, api.OpBvNand, api.OpBvNor, api.OpBvXnor:
		return bitwise(op, a, b), api.OK
	case api.OpBvAdd, api.OpBvSub, api.OpBvMul:
		return arithmetic(op, a, b), api.OK
	case api.OpBvUdiv, api.OpBvUrem:
		return unsignedDivision(op, a, b), api.OK
	case api.OpBvSdiv, api.OpBvSrem, api.OpBvSmod:
		return signedDivision(op, a, b), api.OK
	case api.OpBvShl, api.OpBvLshr, api.OpBvAshr:
		return shift(op, a, b), api.OK
	case api.OpUlt, api.OpUle, api.OpUgt, api.OpUge, api.OpSlt, api.OpSle, api.OpSgt, api.OpSge:
		return Bool(compare(op, a, b)), api.OK
	case api.OpEq:
		return Bool(a == b), api.OK
	case api.OpComp:
		return cut(1, Bool(a == b).Lo, 0), api.OK
	}
	return api.Bits{}, api.ErrBvOp
}

func turn(a api.Bits) api.Bits {
	return cut(a.W, ^a.Lo, ^a.Hi)
}

func negate(a api.Bits) api.Bits {
	return subtract(cut(a.W, 0, 0), a)
}

func add(a, b api.Bits) api.Bits {
	lo, carry := bits.Add64(a.Lo, b.Lo, 0)
	return cut(a.W, lo, a.Hi+b.Hi+carry)
}

func subtract(a, b api.Bits) api.Bits {
	lo, borrow := bits.Sub64(a.Lo, b.Lo, 0)
	return cut(a.W, lo, a.Hi-b.Hi-borrow)
}

func multiply(a, b api.Bits) api.Bits {
	hi, lo := bits.Mul64(a.Lo, b.Lo)
	return cut(a.W, lo, hi+a.Lo*b.Hi+a.Hi*b.Lo)
}

func bitwise(op int, a, b api.Bits) api.Bits {
	turned := false
	var c api.Bits
	switch op {
	case api.OpBvNand:
		turned = true
		fallthrough
	case api.OpBvAnd:
		c = cut(a.W, a.Lo&b.Lo, a.Hi&b.Hi)
	case api.OpBvNor:
		turned = true
		fallthrough
	case api.OpBvOr:
		c = cut(a.W, a.Lo|b.Lo, a.Hi|b.Hi)
	case api.OpBvXnor:
		turned = true
		fallthrough
	case api.OpBvXor:
		c = cut(a.W, a.Lo^b.Lo, a.Hi^b.Hi)
	}
	if turned {
		return turn(c)
	}
	return c
}

func arithmetic(op int, a, b api.Bits) api.Bits {
	switch op {
	case api.OpBvSub:
		b = negate(b)
		fallthrough
	case api.OpBvAdd:
		return add(a, b)
	}
	return multiply(a, b)
}

func shift(op int, a, b api.Bits) api.Bits {
	n := distance(b)
	switch op {
	case api.OpBvShl:
		return moveUp(a, n)
	case api.OpBvAshr:
		// Turned ahead and behind, the 0 bits that come in are 1, and the number is rounded down.
		if isBelowZero(a) {
			return turn(moveDown(turn(a), n))
		}
		fallthrough
	case api.OpBvLshr:
		return moveDown(a, n)
	}
	return api.Bits{}
}

// distance is the word's number, or its width, if that is less: a shift further than that does the same.
func distance(b api.Bits) int {
	if b.Hi != 0 || b.Lo > uint64(b.W) {
		return b.W
	}
	return int(b.Lo)
}

func compare(op int, a, b api.Bits) bool {
	switch op {
	case api.OpSlt, api.OpSle, api.OpSgt, api.OpSge:
		// With the highest bits turned, the order of the signed numbers is that of the numbers.
		a, b = turnHighest(a), turnHighest(b)
	}
	switch op {
	case api.OpUgt, api.OpSgt:
		a, b = b, a
		fallthrough
	case api.OpUlt, api.OpSlt:
		return isBelow(a, b)
	case api.OpUle, api.OpSle:
		a, b = b, a
		fallthrough
	case api.OpUge, api.OpSge:
		return !isBelow(a, b)
	}
	return false
}

func turnHighest(a api.Bits) api.Bits {
	return bitwise(api.OpBvXor, a, leastSigned(a.W))
}

func leastSigned(w int) api.Bits {
	return moveUp(cut(w, 1, 0), w-1)
}

func isBelow(a, b api.Bits) bool {
	if a.Hi != b.Hi {
		return a.Hi < b.Hi
	}
	return a.Lo < b.Lo
}
