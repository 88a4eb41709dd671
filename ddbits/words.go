package ddbits

import (
	"slices"

	"plait/api"
)

// A word that is used up is no more its owner's: each of its bits is released as soon as it isn't needed any more. Other words, and single diagrams, are left as they are.

// combined tells a and b together (OpBvAdd), or a less b (OpBvSub), where a diagram is true, else a. b may have more bits than a. It uses up a.
func (r *run) combined(op int, a []int, when int, b []int) []int {
	var out []int
	carry := 0
	for i, f := range a {
		g := r.and(when, b[i])
		half := r.xor(f, g)
		r.release(f)
		out = append(out, r.xor(half, carry))
		next := 0
		if i+1 < len(a) {
			next = r.carried(op, half, g, carry)
		}
		r.release(g, half, carry)
		carry = next
	}
	return out
}

// negated tells 2^W less a's number, where a diagram is true, else a: all bits are turned that have a 1 somewhere below them. It uses up a.
func (r *run) negated(a []int, when int) []int {
	var out []int
	one := 0
	for i, f := range a {
		turn := r.and(when, one)
		out = append(out, r.xor(f, turn))
		r.release(turn)
		next := 0
		if i+1 < len(a) {
			next = r.or(one, f)
		}
		r.release(f, one)
		one = next
	}
	return out
}

func top(a []int) int { return a[len(a)-1] }

// size tells that of a signed number. It uses up a.
func (r *run) size(a []int) []int {
	sign := r.again(top(a))
	out := r.negated(a, sign)
	r.release(sign)
	return out
}

// goesInto tells whether b's number isn't above a's; b may have more bits.
func (r *run) goesInto(b, a []int) int {
	state := startOf(api.OpUle)
	for i, f := range a {
		half := r.xor(b[i], f)
		next := r.carried(api.OpUle, half, f, state)
		r.release(half, state)
		state = next
	}
	above := r.any(b[len(a):])
	out := r.ite(above, 0, state)
	r.release(above, state)
	return out
}

// divided tells what one of the operators of division makes of two words; it uses up both.
func (r *run) divided(op int, a, b []int) []int {
	switch op {
	case api.OpBvUdiv:
		return r.quotient(a, b)
	case api.OpBvUrem:
		return r.rest(a, b)
	case api.OpBvSdiv:
		return r.signedQuotient(a, b)
	case api.OpBvSrem:
		return r.signedRest(a, b)
	}
	return r.signedModulus(a, b)
}

// quotient goes from the highest bit of a, as one does on paper: what is left of the bits so far has no more bits than these. By 0 it makes all bits 1, as it must. It uses up both words.
func (r *run) quotient(a, b []int) []int {
	out := make([]int, len(a))
	var left []int
	for i, f := range slices.Backward(a) {
		left = slices.Insert(left, 0, f)
		out[i] = r.goesInto(b, left)
		if i > 0 {
			left = trimmed(r.combined(api.OpBvSub, left, out[i], b))
		}
	}
	r.release(left...)
	r.release(b...)
	return out
}

// rest goes likewise. By 0 it makes a, as it must. It uses up both words.
func (r *run) rest(a, b []int) []int {
	var left []int
	for _, f := range slices.Backward(a) {
		left = slices.Insert(left, 0, f)
		digit := r.goesInto(b, left)
		left = trimmed(r.combined(api.OpBvSub, left, digit, b))
		r.release(digit)
	}
	r.release(b...)
	return append(left, make([]int, len(a)-len(left))...)
}

// trimmed tells a word without the bits above all that may be 1.
func trimmed(l []int) []int {
	for len(l) > 0 && top(l) == 0 {
		l = l[:len(l)-1]
	}
	return l
}

// signedQuotient uses up both words.
func (r *run) signedQuotient(a, b []int) []int {
	unlike := r.xor(top(a), top(b))
	out := r.negated(r.quotient(r.size(a), r.size(b)), unlike)
	r.release(unlike)
	return out
}

// signedRest uses up both words.
func (r *run) signedRest(a, b []int) []int {
	sign := r.again(top(a))
	out := r.negated(r.rest(r.size(a), r.size(b)), sign)
	r.release(sign)
	return out
}

// signedModulus is the signed rest and, if that isn't 0 and the signs are unlike, b. It uses up both words.
func (r *run) signedModulus(a, b []int) []int {
	unlike := r.xor(top(a), top(b))
	var second []int
	for _, f := range b {
		second = append(second, r.again(f))
	}
	out := r.signedRest(a, second)
	some := r.any(out)
	more := r.and(unlike, some)
	r.release(unlike, some)
	out = r.combined(api.OpBvAdd, out, more, b)
	r.release(more)
	r.release(b...)
	return out
}
