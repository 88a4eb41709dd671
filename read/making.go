package read

import (
	"plait/api"
	"plait/term"
)

func (o operator) takes(operands int) bool {
	if o.joins == asMany {
		return operands == term.Arity(o.op)
	}
	return operands >= 2
}

// join makes a term of as many operands as the operator takes.
func (r *reading) join(o operator, numbers [2]int, ids []int) (int, api.Errno) {
	switch o.joins {
	case fromLeft:
		return r.left(o.op, ids)
	case fromRight:
		return r.right(o.op, ids)
	case neighbours:
		return r.alike(ids)
	case eachTwo:
		return r.unlike(ids)
	}
	var l [3]int
	copy(l[:], ids)
	return r.scope.graph.Make(api.Node{Op: o.op, A: l[0], B: l[1], C: l[2], P: numbers[0], Q: numbers[1]})
}

func (r *reading) two(op, a, b int) (int, api.Errno) {
	return r.scope.graph.Make(api.Node{Op: op, A: a, B: b})
}

func (r *reading) left(op int, ids []int) (int, api.Errno) {
	all := ids[0]
	for _, id := range ids[1:] {
		next, e := r.two(op, all, id)
		if e != api.OK {
			return 0, e
		}
		all = next
	}
	return all, api.OK
}

func (r *reading) right(op int, ids []int) (int, api.Errno) {
	all := ids[len(ids)-1]
	for i := len(ids) - 2; i >= 0; i-- {
		next, e := r.two(op, ids[i], all)
		if e != api.OK {
			return 0, e
		}
		all = next
	}
	return all, api.OK
}

func (r *reading) alike(ids []int) (int, api.Errno) {
	all := 0
	for i, id := range ids[1:] {
		same, e := r.two(api.OpEq, ids[i], id)
		if e != api.OK {
			return 0, e
		}
		if all, e = r.also(all, same); e != api.OK {
			return 0, e
		}
	}
	return all, api.OK
}

// unlike goes on with and as the pairs come: a full graph ends it long before all pairs of a long list.
func (r *reading) unlike(ids []int) (int, api.Errno) {
	all := 0
	for i, a := range ids {
		for _, b := range ids[i+1:] {
			other, e := r.differ(a, b)
			if e != api.OK {
				return 0, e
			}
			if all, e = r.also(all, other); e != api.OK {
				return 0, e
			}
		}
	}
	return all, api.OK
}

func (r *reading) differ(a, b int) (int, api.Errno) {
	same, e := r.two(api.OpEq, a, b)
	if e != api.OK {
		return 0, e
	}
	return r.scope.graph.Make(api.Node{Op: api.OpNot, A: same})
}

// also is all and next; with all 0, which is no node, next alone.
func (r *reading) also(all, next int) (int, api.Errno) {
	if all == 0 {
		return next, api.OK
	}
	return r.two(api.OpAnd, all, next)
}

func (r *reading) constant(v api.Bits) (int, api.Errno) {
	return r.scope.graph.Make(api.Node{Op: api.OpConst, Sort: v.W, V: v})
}

func (r *reading) sortOf(id int) int {
	n, _ := r.scope.graph.Node(id)
	return n.Sort
}
