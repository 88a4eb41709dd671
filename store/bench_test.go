package store_test

import (
	"math/rand"
	"slices"
	"testing"

	"plait/api"
	"plait/store"
)

// filled makes a store of clauses, all of which must be taken.
func filled(t *testing.T, clauses [][]int) *store.Store {
	t.Helper()
	s := store.New(api.MaxArena)
	for i, c := range clauses {
		if ref, e := s.Add(c); ref != i || e != api.OK {
			t.Fatalf("P11.1: Add(%v): %d, %v, not %d", c, ref, e, i)
		}
	}
	return s
}

// replay: a Follow's answer gone through again, with values looked up clause by clause and no watches: a second writing of P11.2.
type replay struct {
	clauses [][]int
	truth   map[int]bool
	told    []int
	at      int
}

// left tells whether a clause has a true literal, and which ones have no value.
func (r *replay) left(clause []int) (bool, []int) {
	var free []int
	for _, l := range clause {
		if r.truth[l] {
			return true, nil
		}
		if !r.truth[-l] {
			free = append(free, l)
		}
	}
	return false, free
}

// follows tells whether a literal without a value is the last one left of a clause.
func (r *replay) follows(l int) bool {
	for _, c := range r.clauses {
		if sat, free := r.left(c); !sat && len(free) == 1 && free[0] == l {
			return true
		}
	}
	return false
}

// take goes over one told literal.
func (r *replay) take() {
	r.truth[r.told[r.at]] = true
	r.at++
}

// takeAll goes over all told ones that follow, and tells whether all is settled then.
func (r *replay) takeAll() bool {
	for r.at < len(r.told) && r.follows(r.told[r.at]) {
		r.take()
	}
	for _, c := range r.clauses {
		if sat, free := r.left(c); !sat && len(free) < 2 {
			return false
		}
	}
	return true
}

// fault tells what is wrong with an answer of Follow, or nothing.
func fault(clauses [][]int, lits, told []int, end int) string {
	r := &replay{clauses: clauses, truth: map[int]bool{}, told: told}
	for i := -1; i < len(lits); i++ {
		if i >= 0 {
			l := lits[i]
			if l == 0 || l > api.MaxVars || l < -api.MaxVars || r.truth[-l] {
				return ended(r, end, -2, "P11.2: a literal that can't be set")
			}
			if r.truth[l] {
				continue
			}
			if r.at == len(told) || told[r.at] != l {
				return "P11.2: one of the literals isn't set in its turn"
			}
			r.take()
		}
		if !r.takeAll() {
			return brokenEnd(r, end)
		}
	}
	return ended(r, end, -1, "P11.2: all was set")
}

// ended tells what is wrong with an answer's end.
func ended(r *replay, end, want int, why string) string {
	if end != want {
		return why + ": not the right end"
	}
	if r.at != len(r.told) {
		return "P11.3: a literal that follows from nothing"
	}
	return ""
}

// brokenEnd tells what is wrong with an answer that ended where not all is settled.
func brokenEnd(r *replay, end int) string {
	if r.at != len(r.told) {
		return "P11.3: a literal that follows from nothing"
	}
	if end < 0 || end >= len(r.clauses) {
		return "P11.2: a clause has fewer than two left, and none is told"
	}
	if sat, free := r.left(r.clauses[end]); sat || len(free) > 0 {
		return "P11.2: the told clause has a literal left"
	}
	return ""
}

// check asks Follow and holds its answer against the clauses.
func check(t *testing.T, s *store.Store, clauses [][]int, lits []int) ([]int, int) {
	t.Helper()
	told, end := s.Follow(lits)
	if f := fault(clauses, lits, told, end); f != "" {
		t.Fatalf("%s: clauses %v, Follow(%v): %v, %d", f, clauses, lits, told, end)
	}
	return told, end
}

// allClauses tells all clauses over variables 1 to n, as lists that rise by variables.
func allClauses(n int) [][]int {
	all := [][]int{nil}
	for v := 1; v <= n; v++ {
		for _, c := range all[:len(all):len(all)] {
			all = append(all, append(slices.Clone(c), v), append(slices.Clone(c), -v))
		}
	}
	return all
}

// someClause makes a clause of so many literals over variables 1 to n, in any order.
func someClause(r *rand.Rand, n, width int) []int {
	c := r.Perm(n)[:width]
	for i := range c {
		c[i] = someSign(r, c[i]+1)
	}
	return c
}

// someSign turns a literal, or doesn't.
func someSign(r *rand.Rand, l int) int {
	if r.Intn(2) == 0 {
		return -l
	}
	return l
}

// someClauses makes clauses of least to most literals.
func someClauses(r *rand.Rand, many, n, least, most int) [][]int {
	clauses := make([][]int, many)
	for i := range clauses {
		clauses[i] = someClause(r, n, least+r.Intn(most-least+1))
	}
	return clauses
}

// someLits makes literals, a few of them twice, against one another, or none at all.
func someLits(r *rand.Rand, n int) []int {
	lits := make([]int, r.Intn(n+1))
	for i := range lits {
		lits[i] = someSign(r, r.Intn(n)+1)
		if r.Intn(100) == 0 {
			lits[i] = []int{0, api.MaxVars + 1, -api.MaxVars - 1}[r.Intn(3)]
		}
	}
	return lits
}
