package bv_test

import (
	"fmt"
	"math/big"
	"testing"

	"plait/api"
	"plait/bv"
)

var twoOperators = []int{
	api.OpBvAnd, api.OpBvOr, api.OpBvXor, api.OpBvNand, api.OpBvNor, api.OpBvXnor,
	api.OpBvAdd, api.OpBvSub, api.OpBvMul,
	api.OpBvUdiv, api.OpBvUrem, api.OpBvSdiv, api.OpBvSrem, api.OpBvSmod,
	api.OpBvShl, api.OpBvLshr, api.OpBvAshr,
	api.OpUlt, api.OpUle, api.OpUgt, api.OpUge, api.OpSlt, api.OpSle, api.OpSgt, api.OpSge,
	api.OpEq, api.OpComp,
}

func truth(b bool) api.Bits {
	if b {
		return api.Bits{Lo: 1}
	}
	return api.Bits{}
}

// expected is the chapter's table.
func expected(op int, a, b api.Bits) api.Bits {
	w, m, n := a.W, number(a), number(b)
	r := new(big.Int)
	switch op {
	case api.OpBvAnd:
		return word(w, r.And(m, n))
	case api.OpBvOr:
		return word(w, r.Or(m, n))
	case api.OpBvXor:
		return word(w, r.Xor(m, n))
	case api.OpBvNand:
		return word(w, r.Not(r.And(m, n)))
	case api.OpBvNor:
		return word(w, r.Not(r.Or(m, n)))
	case api.OpBvXnor:
		return word(w, r.Not(r.Xor(m, n)))
	case api.OpBvAdd:
		return word(w, r.Add(m, n))
	case api.OpBvSub:
		return word(w, r.Sub(m, n))
	case api.OpBvMul:
		return word(w, r.Mul(m, n))
	case api.OpBvUdiv:
		return word(w, unsignedQuotient(w, m, n))
	case api.OpBvUrem:
		return word(w, unsignedRest(m, n))
	case api.OpBvSdiv, api.OpBvSrem, api.OpBvSmod:
		return expectedSigned(op, a, b)
	case api.OpBvShl, api.OpBvLshr, api.OpBvAshr:
		return expectedShift(op, a, n)
	}
	return expectedRelation(op, a, b)
}

func unsignedQuotient(w int, m, n *big.Int) *big.Int {
	if n.Sign() == 0 {
		return new(big.Int).Sub(power(w), big.NewInt(1))
	}
	return new(big.Int).Quo(m, n)
}

func unsignedRest(m, n *big.Int) *big.Int {
	if n.Sign() == 0 {
		return m
	}
	return new(big.Int).Rem(m, n)
}

func expectedSigned(op int, a, b api.Bits) api.Bits {
	x, y := signedNumber(a), signedNumber(b)
	below, other := x.Sign() < 0, y.Sign() < 0
	r := unsignedQuotient(a.W, new(big.Int).Abs(x), new(big.Int).Abs(y))
	u := unsignedRest(new(big.Int).Abs(x), new(big.Int).Abs(y))
	switch {
	case op == api.OpBvSdiv && below != other:
		r.Neg(r)
	case op == api.OpBvSdiv:
	case op == api.OpBvSrem && below:
		r.Neg(u)
	case op == api.OpBvSrem:
		r = u
	case u.Sign() == 0 || !below && !other:
		r = u
	case below && !other:
		r.Sub(y, u)
	case other && !below:
		r.Add(u, y)
	default:
		r.Neg(u)
	}
	return word(a.W, r)
}

func expectedShift(op int, a api.Bits, n *big.Int) api.Bits {
	by := uint(a.W) // as far as that all bits are out
	if n.Cmp(big.NewInt(int64(a.W))) < 0 {
		by = uint(n.Uint64())
	}
	switch op {
	case api.OpBvShl:
		return word(a.W, new(big.Int).Lsh(number(a), by))
	case api.OpBvLshr:
		return word(a.W, new(big.Int).Rsh(number(a), by))
	}
	return word(a.W, new(big.Int).Rsh(signedNumber(a), by)) // rounds down, also below 0
}

func expectedRelation(op int, a, b api.Bits) api.Bits {
	u, s := number(a).Cmp(number(b)), signedNumber(a).Cmp(signedNumber(b))
	switch op {
	case api.OpUlt:
		return truth(u < 0)
	case api.OpUle:
		return truth(u <= 0)
	case api.OpUgt:
		return truth(u > 0)
	case api.OpUge:
		return truth(u >= 0)
	case api.OpSlt:
		return truth(s < 0)
	case api.OpSle:
		return truth(s <= 0)
	case api.OpSgt:
		return truth(s > 0)
	case api.OpSge:
		return truth(s >= 0)
	case api.OpEq:
		return truth(u == 0)
	}
	return api.Bits{W: 1, Lo: truth(u == 0).Lo} // OpComp
}

func TestTwo(t *testing.T) {
	for _, w := range edgeWidths {
		list := samples(w)
		for _, op := range twoOperators {
			for _, a := range list {
				for _, b := range list {
					got, e := bv.Two(op, a, b)
					checkBits(t, fmt.Sprintf("P1.3: operator %d of %+v, %+v", op, a, b), got, e, expected(op, a, b))
				}
			}
		}
	}
}

func TestTwoExamples(t *testing.T) {
	for _, x := range []struct {
		op      int
		a, b, c int64
	}{
		{api.OpBvUdiv, 7, 0, 15}, {api.OpBvUrem, 7, 0, 7}, {api.OpBvSdiv, 8, 15, 8}, {api.OpBvSdiv, 9, 2, 13},
		{api.OpBvSrem, 9, 2, 15}, {api.OpBvSmod, 9, 2, 1}, {api.OpBvSmod, 7, 14, 15}, {api.OpBvSdiv, 7, 0, 15},
		{api.OpBvSdiv, 9, 0, 1}, {api.OpBvAshr, 8, 9, 15},
	} {
		got, e := bv.Two(x.op, small(4, x.a), small(4, x.b))
		checkBits(t, fmt.Sprintf("P1.3: operator %d of %d, %d", x.op, x.a, x.b), got, e, small(4, x.c))
	}
}

func TestTwoRefused(t *testing.T) {
	a := small(8, 3)
	for _, op := range otherOperators(twoOperators...) {
		got, e := bv.Two(op, a, a)
		checkRefused(t, fmt.Sprintf("P1.3: operator %d", op), got, e, api.ErrBvOp)
	}
	for _, op := range append(otherOperators(), twoOperators...) {
		for _, b := range append(noWords(), small(7, 3), small(9, 3), small(128, 3)) {
			got, e := bv.Two(op, a, b)
			checkRefused(t, fmt.Sprintf("P1.3: operator %d of %+v, %+v", op, a, b), got, e, api.ErrBvWidth)
			got, e = bv.Two(op, b, a)
			checkRefused(t, fmt.Sprintf("P1.3: operator %d of %+v, %+v", op, b, a), got, e, api.ErrBvWidth)
		}
		for _, b := range noWords() {
			got, e := bv.Two(op, b, b)
			checkRefused(t, fmt.Sprintf("P1.3: operator %d of %+v twice", op, b), got, e, api.ErrBvWidth)
			if b.W < 1 || b.W > api.MaxWidth {
				continue
			}
			right := small(b.W, 1) // the widths alone don't tell them apart
			got, e = bv.Two(op, b, right)
			checkRefused(t, fmt.Sprintf("P1.3: operator %d of %+v, %+v", op, b, right), got, e, api.ErrBvWidth)
			got, e = bv.Two(op, right, b)
			checkRefused(t, fmt.Sprintf("P1.3: operator %d of %+v, %+v", op, right, b), got, e, api.ErrBvWidth)
		}
	}
}
