package ddbits

import (
	"math/bits"
	"slices"

	"plait/api"
)

// separate tells a bit that is made by itself.
func (r *run) separate(p *part, i int) int {
	l := r.wires(p, i)
	if isShift(p.node.Op) && !r.parts[p.node.B].known {
		return r.shifted(p.node.Op, l, r.width(p.node.B))
	}
	in := r.takeAll(l)
	f := r.gate(p.node.Op, in)
	r.release(in...)
	return f
}

// shifted tells which bit comes to a place, out of those by rising distance; behind these stand the w bits of the distance. Where that is too great, it is 0, or the sign.
func (r *run) shifted(op int, l []wire, w int) int {
	r.makeAll(l)
	distance := l[len(l)-w:]
	from := r.takeAll(l[:len(l)-w])
	far := 0
	if op == api.OpBvAshr {
		far = r.again(top(from))
	}
	stages := bits.Len(uint(w - 1))
	for k, d := range slices.Backward(distance[:stages]) {
		f := r.take(d)
		from = r.nearer(from, 1<<k, f, far)
		r.release(f)
	}
	beyond := r.anyOf(distance[stages:])
	out := r.ite(beyond, far, from[0])
	r.release(beyond, far, from[0])
	return out
}

// nearer tells, of bits by their distance, those that are less than so much away, or, where a diagram is true, those that are so much further. It uses up the bits.
func (r *run) nearer(from []int, by, further, far int) []int {
	var out []int
	for i := range min(len(from), by) {
		f := far
		if i+by < len(from) {
			f = from[i+by]
		}
		out = append(out, r.ite(further, f, from[i]))
	}
	r.release(from...)
	return out
}

// anyOf tells whether one of several bits is true.
func (r *run) anyOf(l []wire) int {
	out := 0
	for _, w := range slices.Backward(l) {
		f := r.take(w)
		more := r.or(f, out)
		r.release(f, out)
		out = more
	}
	return out
}

// stream makes the bits up to one.
func (r *run) stream(p *part, last int) {
	for ; p.next <= last; p.next++ {
		l := r.takeAll(r.wires(p, p.next))
		if p.node.Op == api.OpBvMul {
			r.productBit(p, l[0], l[1:])
		} else {
			r.sumBit(p, l[0], l[1])
		}
	}
}

// sumBit makes the next bit of a sum or a difference, of two bits that it releases.
func (r *run) sumBit(p *part, a, b int) {
	half := r.xor(a, b)
	r.release(a)
	if p.takes[p.next] > 0 {
		p.bits[p.next] = r.xor(half, p.carry)
	}
	carry := 0
	if p.next+1 < p.top {
		carry = r.carried(p.node.Op, half, b, p.carry)
	}
	r.release(b, half, p.carry)
	p.carry = carry
}

// productBit makes the next bit of a product, of a digit and, ahead of all digits, the other factor; it releases them.
func (r *run) productBit(p *part, digit int, factor []int) {
	if p.next == 0 {
		p.factor = factor
		p.above = make([]int, p.top)
	}
	p.above = r.combined(api.OpBvAdd, p.above, digit, p.factor)
	r.release(digit)
	if f := p.above[0]; p.takes[p.next] > 0 {
		p.bits[p.next] = f
	} else {
		r.release(f)
	}
	p.above = p.above[1:]
	// With the next digit the highest bit comes above all that are taken.
	left := len(p.above)
	r.release(p.factor[left])
	p.factor = p.factor[:left]
}

// compare tells the one bit of a comparison.
func (r *run) compare(p *part) int {
	op := p.node.Op
	state := startOf(op)
	for i := range r.steps(p) {
		l := r.takeAll(r.wires(p, i))
		half := r.xor(l[0], l[1])
		r.release(l[0])
		next := r.carried(op, half, l[1], state)
		r.release(l[1], half, state)
		state = next
	}
	return state
}

// whole makes all bits.
func (r *run) whole(p *part) {
	l := r.takeAll(r.wires(p, 0))
	w := len(l) / 2
	for i, f := range r.divided(p.node.Op, l[:w:w], l[w:]) {
		if p.takes[i] > 0 {
			p.bits[i] = f
		} else {
			r.release(f)
		}
	}
}
