package sat

import (
	"slices"

	"plait/api"
)

// word: how many bits one number of an assignment has.
const word = 64

// assignment: which variables are true, as bits; all others are false.
type assignment []uint64

// has tells whether a variable is true.
func (a assignment) has(v int) bool {
	at := uint(v) / word
	return at < uint(len(a)) && a[at]>>(uint(v)%word)&1 == 1
}

// with tells another assignment, in which these literals are true, too; the turned ones of them are so already.
func (a assignment) with(lits []lit) assignment {
	b := slices.Clone(a)
	for _, x := range lits {
		if x.isTurned() {
			continue
		}
		v := x.variable()
		if lack := int(v/word) + 1 - len(b); lack > 0 {
			b = append(b, make(assignment, lack)...)
		}
		b[v/word] |= 1 << (v % word)
	}
	return b
}

// agrees tells whether no literal is false, of those whose variables some clause has.
func (s *Solver) agrees(a assignment, lits []lit) bool {
	return !slices.ContainsFunc(lits, func(x lit) bool {
		return s.order.isUsed(x.variable()) && a.has(int(x.variable())) == x.isTurned()
	})
}

// recall answers by an assignment that was found before, if one will do. So what was Sat stays so, even if the search would need more clauses now than it may learn.
func (s *Solver) recall(asked []lit) bool {
	if areOpposed(asked) {
		return false
	}
	at := slices.IndexFunc(s.found, func(a assignment) bool { return s.agrees(a, asked) })
	if at < 0 {
		return false
	}
	s.told.model = s.found[at].with(asked)
	return true
}

// remember keeps the assignment that the search came to, and answers by it.
func (s *Solver) remember(asked []lit) (int, api.Errno) {
	used := slices.DeleteFunc(slices.Clone(s.trail.lits), func(x lit) bool { return !s.order.isUsed(x.variable()) })
	a := assignment(nil).with(used)
	s.found = append(s.found, a)
	s.told.model = a.with(asked)
	return api.Sat, api.OK
}

// areOpposed tells whether one of the literals is another one's opposite.
func areOpposed(lits []lit) bool {
	rising := slices.Sorted(slices.Values(lits))
	for i := range len(rising) - 1 {
		if rising[i].turned() == rising[i+1] {
			return true
		}
	}
	return false
}
