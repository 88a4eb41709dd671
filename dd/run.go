package dd

import (
	"maps"
	"slices"

	"plait/api"
)

// question: f, g and h: what is asked for is g, if f, else h.
type question [3]int

// opposite: in the place of g: h turned. The nodes of h turned are no part of the answer; so they aren't made, and take no room.
const opposite = -1

// plain tells a question with the same answer: one for all that are the same by the laws of And, Or, Xor.
func (q question) plain() question {
	f, g, h := q[0], q[1], q[2]
	if g == opposite {
		return exclusive(min(f, h), max(f, h))
	}
	if f == g {
		g = 1
	}
	if f == h {
		h = 0
	}
	switch {
	case h == 0:
		f, g = min(f, g), max(f, g)
	case g == 1:
		f, h = min(f, h), max(f, h)
	}
	return question{f, g, h}
}

// exclusive tells the plain question for just one of two, the greater one behind.
func exclusive(f, h int) question {
	switch {
	case f == h:
		return question{}
	case f == 1:
		return question{h, 0, 1}
	}
	return question{f, opposite, h}
}

// known tells the answer of a plain question, if no node must be looked at.
func (q question) known() (int, bool) {
	switch {
	case q[0] == 0 || q[1] == q[2]:
		return q[2], true
	case q[0] == 1:
		return q[1], true
	}
	return 0, false
}

// run: a call that may make nodes.
type run struct {
	manager  *Manager
	operands []int
	results  map[question]int // what was found on the way; all of it is part of the answer
}

// answer tells the answer of a question about operands.
func (m *Manager) answer(q question, operands ...int) (int, api.Errno) {
	for _, f := range operands {
		if !m.table.has(f) {
			return 0, api.ErrDdNode
		}
	}
	r := run{manager: m, operands: operands, results: map[question]int{}}
	f, e := r.solve(q)
	if e != api.OK {
		// Behind a collection that was in vain: what was made on the way serves nobody, and would bring the next one on.
		clear(r.results)
		r.collect()
	}
	return f, e
}

// solve tells a question's answer, by those of its halves. These are what the answer is, if its first variables have certain values, and so they are parts of it.
func (r *run) solve(q question) (int, api.Errno) {
	q = q.plain()
	if f, ok := q.known(); ok {
		return f, api.OK
	}
	if f, ok := r.results[q]; ok {
		return f, api.OK
	}
	top := r.top(q)
	no, e := r.solve(r.half(q, top, low))
	if e != api.OK {
		return 0, e
	}
	yes, e := r.solve(r.half(q, top, high))
	if e != api.OK {
		return 0, e
	}
	f, e := r.node(top, no, yes)
	if e != api.OK {
		return 0, e
	}
	r.results[q] = f
	return f, api.OK
}

// top tells the first variable of a question's diagrams.
func (r *run) top(q question) int {
	top := r.manager.vars
	for _, f := range q {
		if f != opposite {
			top = min(top, r.manager.table.nodes[f][variable])
		}
	}
	return top
}

// half tells what a question is for a variable that is false (low), or true (high); none of its variables comes ahead of this one.
func (r *run) half(q question, top, side int) question {
	for i, f := range q {
		if f == opposite {
			continue
		}
		if n := r.manager.table.nodes[f]; n[variable] == top {
			q[i] = n[side]
		}
	}
	return q
}

// node tells the diagram of a variable and two diagrams whose variables come behind it.
func (r *run) node(top, no, yes int) (int, api.Errno) {
	if no == yes {
		return no, api.OK
	}
	t := &r.manager.table
	n := node{top, no, yes}
	if f, ok := t.numbers[n]; ok {
		return f, api.OK
	}
	if t.isFull() {
		r.collect()
	}
	if t.isFull() {
		return 0, api.ErrDdNodes
	}
	return t.add(n), api.OK
}

// collect lets all go but what is pinned and what this run needs.
func (r *run) collect() {
	kept := slices.Collect(maps.Keys(r.manager.pins))
	kept = slices.AppendSeq(kept, maps.Values(r.results))
	r.manager.table.collect(append(kept, r.operands...))
}
