package ddbits

import "plait/api"

// A gate leaves the diagrams that it is given as they are; the one that it tells is pinned for its caller, who releases it.

// told takes over what the manager answered.
func (r *run) told(f int, e api.Errno) int {
	if e != api.OK {
		r.refused = e
		return 0
	}
	return r.again(f)
}

// again pins once more.
func (r *run) again(f int) int {
	r.manager.Pin(f)
	return f
}

func (r *run) release(l ...int) {
	for _, f := range l {
		r.manager.Unpin(f)
	}
}

func (r *run) variable(name string, bit int) int {
	if r.refused != api.OK {
		return 0
	}
	return r.told(r.manager.Var(r.Place(name, bit)))
}

func (r *run) not(f int) int {
	if r.refused != api.OK {
		return 0
	}
	return r.told(r.manager.Not(f))
}

func (r *run) xor(f, g int) int {
	switch {
	case r.refused != api.OK:
		return 0
	case f == 0:
		return r.again(g)
	case g == 0:
		return r.again(f)
	}
	return r.told(r.manager.Xor(f, g))
}

func (r *run) ite(f, g, h int) int {
	switch {
	case r.refused != api.OK:
		return 0
	case f == 0 || g == h:
		return r.again(h)
	case f == 1:
		return r.again(g)
	}
	return r.told(r.manager.Ite(f, g, h))
}

func (r *run) and(f, g int) int { return r.ite(f, g, 0) }

func (r *run) or(f, g int) int { return r.ite(f, 1, g) }

// turned turns a gate's answer round, and releases it.
func (r *run) turned(f int) int {
	out := r.not(f)
	r.release(f)
	return out
}

// any tells whether one of several is true, from the last one on: that of a variable far from the top is made first then, and the others are put above it.
func (r *run) any(l []int) int {
	out := 0
	for i := len(l) - 1; i >= 0; i-- {
		more := r.or(l[i], out)
		r.release(out)
		out = more
	}
	return out
}

// startOf tells what goes into bit 0 of a comparison: whether it is true of two numbers that are the same.
func startOf(op int) int {
	switch op {
	case api.OpEq, api.OpComp, api.OpUle, api.OpUge, api.OpSle, api.OpSge:
		return 1
	}
	return 0
}

// carried tells what goes on to the next bit. half tells whether both bits are unlike, b is the second one.
func (r *run) carried(op, half, b, state int) int {
	switch op {
	case api.OpBvAdd:
		return r.ite(half, state, b)
	case api.OpEq, api.OpComp:
		return r.ite(half, 0, state)
	}
	// Of a difference this is what is borrowed; of a comparison, whether it is true of the bits so far.
	return r.ite(half, b, state)
}

// gate tells that of an operator on bits.
func (r *run) gate(op int, l []int) int {
	switch op {
	case api.OpNot, api.OpBvNot:
		return r.not(l[0])
	case api.OpAnd, api.OpBvAnd:
		return r.and(l[0], l[1])
	case api.OpOr, api.OpBvOr:
		return r.or(l[0], l[1])
	case api.OpXor, api.OpBvXor:
		return r.xor(l[0], l[1])
	case api.OpImplies:
		return r.ite(l[0], l[1], 1)
	case api.OpIte:
		return r.ite(l[0], l[1], l[2])
	case api.OpBvNand:
		return r.turned(r.and(l[0], l[1]))
	case api.OpBvNor:
		return r.turned(r.or(l[0], l[1]))
	case api.OpBvXnor:
		return r.turned(r.xor(l[0], l[1]))
	}
	// All others only move bits.
	return r.again(l[0])
}
