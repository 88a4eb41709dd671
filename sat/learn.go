package sat

import (
	"slices"

	"plait/api"
)

// What a lesson knows of a variable.
const (
	unmet  = iota
	met    // it is in a clause that was looked at
	spare  // it isn't, and has its value because of some that are
	wanted // it isn't, and has its value because of others, too
)

// lesson: what is to be learned from one conflict.
type lesson struct {
	trail *trail
	marks []uint8 // by variables
	met   []lit   // the false literals, above level 0, of the clauses that were looked at
	here  int     // how many of these belong to the conflict's level, and weren't replaced yet
}

// learn takes up a new clause, that follows from a conflict, and jumps back to where it has one literal left.
func (s *Solver) learn(conflict int) api.Errno {
	if s.told.end-s.told.first == s.conflicts {
		return api.ErrSatConflicts
	}
	l := lesson{trail: &s.trail, marks: make([]uint8, len(s.trail.levels))}
	clause := l.clause(conflict)
	step := s.derive(conflict, clause)
	ref, e := s.store.Add(numbersOf(clause))
	if e != api.OK {
		return e
	}
	s.told.end = ref + 1
	s.proof.nameLearned(step)
	s.order.weigh(l.met)
	s.leave(s.trail.ready(clause))
	s.trail.hold(clause)
	s.trail.put(clause[0], ref)
	return api.OK
}

// clause tells the clause: one literal of the conflict's level, through which all went that led to the conflict from that level's choice, and literals of lower ones.
func (l *lesson) clause(conflict int) []lit {
	t := l.trail
	l.meet(t.clauses[conflict])
	at := len(t.lits) - 1
	for ; l.here > 1 || !l.isMet(t.lits[at]); at-- {
		if l.isMet(t.lits[at]) {
			l.here--
			l.meet(t.clauses[t.reason(t.lits[at])])
		}
	}
	clause := []lit{t.lits[at].turned()}
	for _, x := range l.met {
		if t.level(x) < t.depth() && !l.isSpare(x) {
			clause = append(clause, x)
		}
	}
	return clause
}

func (l *lesson) isMet(x lit) bool { return l.marks[x.variable()] == met }

// meet looks at a clause. What is false at level 0 is so forever, and needn't be learned.
func (l *lesson) meet(clause []lit) {
	for _, x := range clause {
		if l.marks[x.variable()] != unmet || l.trail.level(x) == 0 {
			continue
		}
		l.marks[x.variable()] = met
		l.met = append(l.met, x)
		if l.trail.level(x) == l.trail.depth() {
			l.here++
		}
	}
}

// isSpare tells whether a literal is false because of others, of lower levels, that were met, and so needn't be learned beside them.
func (l *lesson) isSpare(x lit) bool {
	ref := l.trail.reason(x)
	if ref == none {
		return false
	}
	return !slices.ContainsFunc(l.trail.clauses[ref][1:], l.isWanted)
}

// isWanted tells whether a literal was neither met nor is spare. What was found out once holds for the whole lesson.
func (l *lesson) isWanted(x lit) bool {
	v := x.variable()
	if l.marks[v] == unmet && l.trail.level(x) > 0 {
		l.marks[v] = wanted
		if l.isSpare(x) {
			l.marks[v] = spare
		}
	}
	return l.marks[v] == wanted
}

// ready puts a literal of the highest level but the first one's to the second place, and tells that level.
func (t *trail) ready(clause []lit) int {
	if len(clause) == 1 {
		return 0
	}
	rest := clause[1:]
	at := 0
	for i, x := range rest {
		if t.level(x) > t.level(rest[at]) {
			at = i
		}
	}
	rest[0], rest[at] = rest[at], rest[0]
	return t.level(rest[0])
}

// causes tells, by literals, which of those that were chosen are why certain literals are false.
func (t *trail) causes(lits []lit) []bool {
	causes := make([]bool, len(t.truths))
	asked := make([]bool, len(t.levels))
	ask := func(lits []lit) {
		for _, x := range lits {
			asked[x.variable()] = true
		}
	}
	ask(lits)
	for _, x := range slices.Backward(t.lits) {
		if !asked[x.variable()] {
			continue
		}
		if ref := t.reason(x); ref == none {
			causes[x] = true
		} else {
			ask(t.clauses[ref])
		}
	}
	return causes
}
