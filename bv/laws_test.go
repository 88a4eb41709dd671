package bv_test

import (
	"testing"

	"plait/api"
	"plait/bv"
)

// two and one fail the test, if the operator is refused.
func two(t *testing.T, op int, a, b api.Bits) api.Bits {
	t.Helper()
	c, e := bv.Two(op, a, b)
	if e != api.OK {
		t.Fatalf("operator %d of %+v, %+v: %v", op, a, b, e)
	}
	return c
}

func one(t *testing.T, op int, a api.Bits) api.Bits {
	t.Helper()
	c, e := bv.One(op, a)
	if e != api.OK {
		t.Fatalf("operator %d of %+v: %v", op, a, e)
	}
	return c
}

func eachPair(w int, do func(a, b api.Bits)) {
	list := samples(w)
	for _, a := range list {
		for _, b := range list {
			do(a, b)
		}
	}
}

func TestQuotientAndRest(t *testing.T) {
	for _, w := range edgeWidths {
		zero := small(w, 0)
		eachPair(w, func(a, b api.Bits) {
			made := func(quotient, rest int) api.Bits {
				return two(t, api.OpBvAdd, two(t, api.OpBvMul, two(t, quotient, a, b), b), two(t, rest, a, b))
			}
			if made(api.OpBvSdiv, api.OpBvSrem) != a {
				t.Errorf("P1.6: OpBvSdiv and OpBvSrem of %+v, %+v", a, b)
			}
			if b == zero {
				return
			}
			if made(api.OpBvUdiv, api.OpBvUrem) != a {
				t.Errorf("P1.6: OpBvUdiv and OpBvUrem of %+v, %+v", a, b)
			}
			if two(t, api.OpUlt, two(t, api.OpBvUrem, a, b), b) != truth(true) {
				t.Errorf("P1.6: OpBvUrem of %+v, %+v", a, b)
			}
			c := two(t, api.OpBvSmod, a, b)
			if c != zero && (signedNumber(c).Sign() < 0) != (signedNumber(b).Sign() < 0) {
				t.Errorf("P1.6: sign of OpBvSmod of %+v, %+v: %+v", a, b, c)
			}
			if !isMultiple(a, b, c) {
				t.Errorf("P1.6: OpBvSmod of %+v, %+v: %+v", a, b, c)
			}
		})
	}
}

// isMultiple tells whether a and c differ by a multiple of b: of the signed numbers, and so modulo 2^W.
func isMultiple(a, b, c api.Bits) bool {
	d := signedNumber(a)
	d.Sub(d, signedNumber(c))
	return d.Rem(d, signedNumber(b)).Sign() == 0
}

func TestSums(t *testing.T) {
	for _, w := range edgeWidths {
		list := samples(w)
		eachPair(w, func(a, b api.Bits) {
			for _, op := range []int{api.OpBvAdd, api.OpBvMul} {
				if two(t, op, a, b) != two(t, op, b, a) {
					t.Errorf("P1.7: order of operator %d of %+v, %+v", op, a, b)
				}
			}
			if two(t, api.OpBvSub, a, b) != two(t, api.OpBvAdd, a, one(t, api.OpBvNeg, b)) {
				t.Errorf("P1.7: OpBvSub of %+v, %+v", a, b)
			}
			for k := 0; k < len(list); k += 3 {
				c := list[k]
				whole := two(t, api.OpBvMul, two(t, api.OpBvAdd, a, b), c)
				parts := two(t, api.OpBvAdd, two(t, api.OpBvMul, a, c), two(t, api.OpBvMul, b, c))
				if whole != parts {
					t.Errorf("P1.7: OpBvMul through OpBvAdd of %+v, %+v, %+v", a, b, c)
				}
			}
		})
		for _, a := range list {
			if one(t, api.OpBvNeg, a) != two(t, api.OpBvAdd, one(t, api.OpBvNot, a), small(w, 1)) {
				t.Errorf("P1.7: OpBvNeg of %+v", a)
			}
		}
	}
}

func TestBitLaws(t *testing.T) {
	for _, w := range edgeWidths {
		highest := word(w, power(w-1))
		eachPair(w, func(a, b api.Bits) {
			notA, notB := one(t, api.OpBvNot, a), one(t, api.OpBvNot, b)
			if one(t, api.OpBvNot, two(t, api.OpBvAnd, a, b)) != two(t, api.OpBvOr, notA, notB) {
				t.Errorf("P1.7: De Morgan, and: %+v, %+v", a, b)
			}
			if one(t, api.OpBvNot, two(t, api.OpBvOr, a, b)) != two(t, api.OpBvAnd, notA, notB) {
				t.Errorf("P1.7: De Morgan, or: %+v, %+v", a, b)
			}
			turned := two(t, api.OpUlt, two(t, api.OpBvXor, a, highest), two(t, api.OpBvXor, b, highest))
			if two(t, api.OpSlt, a, b) != turned {
				t.Errorf("P1.7: OpSlt of %+v, %+v", a, b)
			}
		})
	}
}

func TestPartsOfConcat(t *testing.T) {
	for _, v := range edgeWidths {
		for _, w := range edgeWidths {
			if v+w > api.MaxWidth {
				continue
			}
			for _, a := range samples(v) {
				for _, b := range samples(w) {
					c, _ := bv.Concat(a, b)
					upper, e := bv.Extract(c, v+w-1, w)
					checkBits(t, "P1.7: the upper part", upper, e, a)
					lower, e := bv.Extract(c, w-1, 0)
					checkBits(t, "P1.7: the lower part", lower, e, b)
				}
			}
		}
	}
}

func TestThereAndBack(t *testing.T) {
	for _, w := range edgeWidths {
		for _, a := range append(samples(w), api.Bits{}, api.Bits{Lo: 1}) {
			back, e := bv.Parse(bv.Text(a))
			checkBits(t, "P1.7: Parse(Text(a))", back, e, a)
		}
		for _, a := range samples(w) {
			for n := range 2*w + 2 {
				c, _ := bv.Rotate(a, n, true)
				c, e := bv.Rotate(c, n, false)
				checkBits(t, "P1.7: Rotate left and right", c, e, a)
				c, _ = bv.Rotate(a, n, false)
				c, e = bv.Rotate(c, n, true)
				checkBits(t, "P1.7: Rotate right and left", c, e, a)
			}
		}
	}
}
