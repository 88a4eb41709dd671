package trace_test

import (
	"math/rand"
	"slices"
	"testing"

	"plait/api"
	"plait/trace"
)

// steps makes steps of lists of numbers.
func steps(l ...[]int) []trace.Step {
	var made []trace.Step
	for _, from := range l {
		made = append(made, trace.Step{From: from})
	}
	return made
}

// sameSteps tells whether two lists of steps have the same numbers.
func sameSteps(a, b []trace.Step) bool {
	return slices.EqualFunc(a, b, func(x, y trace.Step) bool { return slices.Equal(x.From, y.From) })
}

// sameClauses tells whether two lists of clauses have the same literals in the same order.
func sameClauses(a, b [][]int) bool { return slices.EqualFunc(a, b, slices.Equal[[]int]) }

// encoded writes steps, which must be taken.
func encoded(t *testing.T, l []trace.Step) []byte {
	t.Helper()
	b, e := trace.Encode(l)
	if e != api.OK {
		t.Fatalf("P12.1: Encode of %d steps: %v", len(l), e)
	}
	return b
}

// cloned copies clauses.
func cloned(clauses [][]int) [][]int {
	all := make([][]int, len(clauses))
	for i, c := range clauses {
		all[i] = slices.Clone(c)
	}
	return all
}

// setOf tells the literals of a clause, and whether all of its numbers are some.
func setOf(clause []int) (map[int]bool, bool) {
	set := map[int]bool{}
	for _, l := range clause {
		if l == 0 || l <= -1<<31 || l >= 1<<31 {
			return nil, false
		}
		set[l] = true
	}
	return set, true
}

// resolved: the words of P12.2, set by set.
func resolved(c, d map[int]bool) (map[int]bool, bool) {
	var xs []int
	for x := range c {
		if d[-x] {
			xs = append(xs, x)
		}
	}
	if len(xs) != 1 {
		return nil, false
	}
	both := map[int]bool{}
	for l := range c {
		if l != xs[0] {
			both[l] = true
		}
	}
	for l := range d {
		if l != -xs[0] {
			both[l] = true
		}
	}
	return both, true
}

// derive: a second writing of Derive, slow and plain.
func derive(clauses [][]int, l []trace.Step) ([][]int, api.Errno) {
	all := cloned(clauses)
	for _, s := range l {
		var c map[int]bool
		for i, n := range s.From {
			if n < 0 || n >= len(all) {
				return nil, api.ErrTraceStep
			}
			d, ok := setOf(all[n])
			if i > 0 && ok {
				d, ok = resolved(c, d)
			}
			if !ok {
				return nil, api.ErrTraceStep
			}
			c = d
		}
		if len(s.From) == 0 {
			return nil, api.ErrTraceStep
		}
		var list []int
		for x := range c {
			list = append(list, x)
		}
		slices.Sort(list)
		all = append(all, list)
	}
	return all[len(clauses):], api.OK
}

// trimmed: a second writing of what Trim leaves: from the last step down, by calls of itself.
func trimmed(given int, l []trace.Step) []trace.Step {
	keep := map[int]bool{}
	var need func(n int)
	need = func(n int) {
		if n < given || keep[n] {
			return
		}
		keep[n] = true
		for _, m := range l[n-given].From {
			need(m)
		}
	}
	need(given + len(l) - 1)
	var left []trace.Step
	for i, s := range l {
		if !keep[given+i] {
			continue
		}
		var from []int
		for _, n := range s.From {
			gone := 0
			for m := given; m < n; m++ {
				if !keep[m] {
					gone++
				}
			}
			from = append(from, n-gone)
		}
		left = append(left, trace.Step{From: from})
	}
	return left
}

// holds tells whether a clause is true under an assignment: bit v - 1 is variable v's value.
func holds(clause []int, bits int) bool {
	return slices.ContainsFunc(clause, func(l int) bool {
		return l > 0 == (bits>>(max(l, -l)-1)&1 == 1)
	})
}

// allHold tells whether all clauses are true under an assignment. One that isn't made of literals can't be named, so it must not matter.
func allHold(clauses [][]int, bits int) bool {
	return !slices.ContainsFunc(clauses, func(c []int) bool {
		_, ok := setOf(c)
		return ok && !holds(c, bits)
	})
}

// someWay tells whether an assignment of variables 1 to n makes all clauses true.
func someWay(clauses [][]int, n int) bool {
	for bits := range 1 << n {
		if allHold(clauses, bits) {
			return true
		}
	}
	return false
}

// refuter makes steps down to the empty clause, by trying both values of one variable behind the other.
type refuter struct {
	n     int
	all   [][]int
	given int
	steps []trace.Step
}

// refute makes a trace of clauses over variables 1 to n, or tells that an assignment makes all of them true.
func refute(clauses [][]int, n int) ([]trace.Step, bool) {
	r := &refuter{n: n, all: cloned(clauses), given: len(clauses)}
	end, ok := r.under(nil)
	if !ok {
		return nil, false
	}
	if end != len(r.all)-1 || end < r.given {
		r.steps = append(r.steps, trace.Step{From: []int{end}})
	}
	return r.steps, true
}

// under tells a clause all of whose literals are false where these are true.
func (r *refuter) under(lits []int) (int, bool) {
	for i, c := range r.all {
		if !slices.ContainsFunc(c, func(l int) bool { return !slices.Contains(lits, -l) }) {
			return i, true
		}
	}
	v := len(lits) + 1
	if v > r.n {
		return 0, false
	}
	a, ok := r.under(append(slices.Clone(lits), v))
	if !ok || !slices.Contains(r.all[a], -v) {
		return a, ok
	}
	b, ok := r.under(append(slices.Clone(lits), -v))
	if !ok || !slices.Contains(r.all[b], v) {
		return b, ok
	}
	c, _ := setOf(r.all[a])
	d, _ := setOf(r.all[b])
	both, _ := resolved(c, d)
	var list []int
	for l := range both {
		list = append(list, l)
	}
	r.all = append(r.all, list)
	r.steps = append(r.steps, trace.Step{From: []int{a, b}})
	return len(r.all) - 1, true
}

// someClause makes a list of up to most literals over variables 1 to n: some twice, some beside their opposites.
func someClause(r *rand.Rand, n, most int) []int {
	c := make([]int, r.Intn(most+1))
	for i := range c {
		c[i] = r.Intn(n) + 1
		if r.Intn(2) == 0 {
			c[i] = -c[i]
		}
	}
	return c
}

// someClauses makes clauses of one literal to most.
func someClauses(r *rand.Rand, many, n, most int) [][]int {
	clauses := make([][]int, many)
	for i := range clauses {
		for len(clauses[i]) == 0 {
			clauses[i] = someClause(r, n, most)
		}
	}
	return clauses
}

// someSteps makes steps, most of whose numbers are those of clauses ahead.
func someSteps(r *rand.Rand, given, many int) []trace.Step {
	l := make([]trace.Step, many)
	for i := range l {
		for range 1 + r.Intn(3) {
			l[i].From = append(l[i].From, r.Intn(given+i))
		}
	}
	return l
}
