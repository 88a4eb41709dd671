package bv

import "plait/api"

func unsignedDivision(op int, a, b api.Bits) api.Bits {
	quotient, rest := divide(a, b)
	if op == api.OpBvUdiv {
		return quotient
	}
	return rest
}

func signedDivision(op int, a, b api.Bits) api.Bits {
	quotient, rest := divide(size(a), size(b))
	switch op {
	case api.OpBvSdiv:
		if isBelowZero(a) != isBelowZero(b) {
			return negate(quotient)
		}
		return quotient
	case api.OpBvSmod:
		// The rest takes a's sign, as of OpBvSrem; where b's is the other one, one b more brings it to b's side.
		if rest != cut(a.W, 0, 0) && isBelowZero(a) != isBelowZero(b) {
			return add(withSignOf(a, rest), b)
		}
		fallthrough
	case api.OpBvSrem:
		return withSignOf(a, rest)
	}
	return api.Bits{}
}

func withSignOf(a, number api.Bits) api.Bits {
	if isBelowZero(a) {
		return negate(number)
	}
	return number
}

func size(a api.Bits) api.Bits {
	return withSignOf(a, a)
}

// divide goes by long division, the highest bit first; it tells all bits 1 and a, if b is 0.
func divide(a, b api.Bits) (quotient, rest api.Bits) {
	zero := cut(a.W, 0, 0)
	if b == zero {
		return turn(zero), a
	}
	quotient, rest = zero, zero
	for k := range a.W {
		// A bit that leaves the width here makes the rest greater than any b; the subtraction wraps it away.
		outgrown := isBelowZero(rest)
		rest = moveUp(rest, 1)
		quotient = moveUp(quotient, 1)
		if bitAt(a, a.W-1-k) {
			rest.Lo |= 1
		}
		if outgrown || !isBelow(rest, b) {
			rest = subtract(rest, b)
			quotient.Lo |= 1
		}
	}
	return quotient, rest
}
