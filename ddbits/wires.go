package ddbits

import "plait/api"

// wire: a bit of a part. The zero one is false: no node has that number.
type wire struct{ id, bit int }

// span tells the bits of a part from one on up to another, without that one.
func span(id, from, to int) []wire {
	var l []wire
	for i := from; i < to; i++ {
		l = append(l, wire{id, i})
	}
	return l
}

// within tells a bit of a part, or false, if it has no such bit.
func (r *run) within(id, i int) wire {
	if i < 0 || i >= r.width(id) {
		return wire{}
	}
	return wire{id, i}
}

// steps tells in how many steps a part is made that is taken; each bit has one that is made by itself.
func (r *run) steps(p *part) int {
	switch shapeOf(p.node.Op) {
	case compared:
		return min(p.top, 1) * r.width(p.node.A)
	case whole:
		return min(p.top, 1)
	}
	return p.top
}

// wires tells what is taken in a step.
func (r *run) wires(p *part, step int) []wire {
	n := p.node
	switch {
	case n.Op == api.OpBvMul:
		return r.productWires(p, step)
	case n.Op == api.OpBvNeg:
		return []wire{{}, {n.A, step}}
	case isShift(n.Op):
		return r.shiftWires(n, step)
	}
	switch shapeOf(n.Op) {
	case compared:
		return r.comparedWires(n, step)
	case whole:
		w := r.width(n.A)
		return append(span(n.A, 0, w), span(n.B, 0, w)...)
	}
	return r.bitWires(n, step)
}

// productWires tells a digit of the one factor, ahead of the first step with the bits of the other one behind it. None of them counts in bits below it. A known factor is the other one, since it costs nothing to hold.
func (r *run) productWires(p *part, step int) []wire {
	digits, factor := p.node.A, p.node.B
	if r.parts[digits].known {
		digits, factor = factor, digits
	}
	l := []wire{{digits, step}}
	if step == 0 {
		l = append(l, span(factor, 0, p.top)...)
	}
	return l
}

// comparedWires tells two bits; whether the first operand is below the second one is asked of them.
func (r *run) comparedWires(n api.Node, step int) []wire {
	a, b := n.A, n.B
	if n.Op == api.OpUgt || n.Op == api.OpUge || n.Op == api.OpSgt || n.Op == api.OpSge {
		a, b = b, a
	}
	// Where the sign says 1 the number is the lesser one.
	if n.Op >= api.OpSlt && n.Op <= api.OpSge && step == r.width(a)-1 {
		a, b = b, a
	}
	return []wire{{a, step}, {b, step}}
}

// shiftWires tells all bits that may come to one, by rising distance, and behind them the distance; just the one that comes, if the distance is known.
func (r *run) shiftWires(n api.Node, i int) []wire {
	w := r.width(n.A)
	if d := r.parts[n.B]; d.known {
		return []wire{r.shiftWire(n, i, distance(d.value))}
	}
	var l []wire
	for by := range w {
		if from := r.shiftWire(n, i, by); from != (wire{}) {
			l = append(l, from)
		}
	}
	return append(l, span(n.B, 0, w)...)
}

// shiftWire tells the bit that comes to one over a distance.
func (r *run) shiftWire(n api.Node, i, by int) wire {
	switch n.Op {
	case api.OpBvShl:
		return r.within(n.A, i-by)
	case api.OpBvLshr:
		return r.within(n.A, i+by)
	}
	return wire{n.A, min(i+by, r.width(n.A)-1)}
}

// distance tells a number, or MaxWidth, if it is greater.
func distance(v api.Bits) int {
	if v.Hi > 0 || v.Lo > api.MaxWidth {
		return api.MaxWidth
	}
	return int(v.Lo)
}

// bitWires tells what a bit is made of that is made by itself, or with what is carried.
func (r *run) bitWires(n api.Node, i int) []wire {
	w := r.width(n.A)
	switch n.Op {
	case api.OpNot, api.OpBvNot:
		return []wire{{n.A, i}}
	case api.OpIte:
		return []wire{{n.A, 0}, {n.B, i}, {n.C, i}}
	case api.OpConcat:
		if low := r.width(n.B); i >= low {
			return []wire{{n.A, i - low}}
		}
		return []wire{{n.B, i}}
	case api.OpExtract:
		return []wire{{n.A, i + n.Q}}
	case api.OpZext:
		return []wire{r.within(n.A, i)}
	case api.OpSext:
		return []wire{{n.A, min(i, w-1)}}
	case api.OpRotl:
		return []wire{{n.A, (i + w - n.P%w) % w}}
	case api.OpRotr:
		return []wire{{n.A, (i + n.P%w) % w}}
	case api.OpRepeat:
		return []wire{{n.A, i % w}}
	}
	return []wire{{n.A, i}, {n.B, i}}
}
