package trace

import (
	"slices"

	"plait/api"
)

// topVariable: of the variables of literals.
const topVariable = 1<<31 - 1

// table: the clauses of a trace so far, by their numbers.
type table struct {
	given, derived [][]int
}

// literals: those of a clause while it is resolved.
type literals map[int]struct{}

// Derive tells each step's clause.
func Derive(clauses [][]int, l []Step) ([][]int, api.Errno) {
	t := table{given: clauses}
	for _, s := range l {
		clause, ok := t.resolvent(s.From)
		if !ok {
			return nil, api.ErrTraceStep
		}
		t.derived = append(t.derived, clause)
	}
	return t.derived, api.OK
}

// resolvent tells the clause of a step, and whether there is one.
func (t *table) resolvent(from []int) ([]int, bool) {
	if len(from) == 0 {
		return nil, false
	}
	marked := literals{}
	for i, n := range from {
		clause, ok := t.clause(n)
		pivot := 0 // no literal: the first clause is taken whole
		if ok && i > 0 {
			pivot, ok = marked.pivot(clause)
		}
		if !ok {
			return nil, false
		}
		marked.join(clause, pivot)
	}
	return marked.sorted(), true
}

// clause tells the clause that has a number, and whether there is one and it is made of literals.
func (t *table) clause(n int) ([]int, bool) {
	if n < 0 || n >= len(t.given)+len(t.derived) {
		return nil, false
	}
	if n >= len(t.given) {
		return t.derived[n-len(t.given)], true
	}
	clause := t.given[n]
	return clause, !slices.ContainsFunc(clause, isNoLiteral)
}

// isNoLiteral tells whether a number is no literal.
func isNoLiteral(l int) bool {
	return l == 0 || l < -topVariable || l > topVariable
}

// pivot tells the literal of these whose opposite a clause has, and whether there is just one.
func (m literals) pivot(clause []int) (int, bool) {
	pivot := 0
	for _, l := range clause {
		if _, found := m[-l]; !found || pivot == -l {
			continue
		}
		if pivot != 0 {
			return 0, false
		}
		pivot = -l
	}
	return pivot, pivot != 0
}

// join leaves out the pivot, and marks a clause's literals but for the pivot's opposite. The clause may have the pivot itself too: then it stays.
func (m literals) join(clause []int, pivot int) {
	delete(m, pivot)
	for _, l := range clause {
		if l != -pivot {
			m[l] = struct{}{}
		}
	}
}

// sorted tells them in rising order.
func (m literals) sorted() []int {
	list := make([]int, 0, len(m))
	for l := range m {
		list = append(list, l)
	}
	slices.Sort(list)
	return list
}
