package sat

import (
	"math/bits"
	"slices"

	"plait/api"
)

// shortest: after how many conflicts the search begins anew for the first time.
const shortest = 16

// makeRoom sees to it that there is room for the variables of literals.
func (s *Solver) makeRoom(lits []lit) {
	if len(lits) == 0 {
		return
	}
	v := slices.Max(lits).variable()
	s.trail.makeRoom(v)
	s.order.makeRoom(v)
	s.proof.makeRoom(v)
}

// take lets the search know of a clause that was added; the level is 0.
func (s *Solver) take(ref int) {
	clause := litsOf(s.clause(ref))
	s.makeRoom(clause)
	for _, x := range clause {
		s.order.use(x.variable())
	}
	held, left := s.trail.falseLast(clause)
	s.trail.hold(held)
	if left == 0 {
		s.refute(ref)
	} else if left == 1 && !s.trail.isTrue(held[0]) {
		s.trail.put(held[0], ref)
	}
}

// pace: when the search begins anew.
type pace struct {
	tries int // how often it has begun
	left  int // how many conflicts are left up to the next beginning
}

// search sets, follows, learns from conflicts and begins anew, until it knows. Each assumption has a level of its own, if only an empty one; what is chosen lies above these.
func (s *Solver) search(asked []lit) (int, api.Errno) {
	p := pace{tries: 1, left: shortest}
search:
	for {
		if conflict := s.follow(); conflict != none {
			if s.trail.depth() <= len(asked) {
				return s.giveUp(asked, conflict)
			}
			if e := s.learn(conflict); e != api.OK {
				return api.Unknown, e
			}
			p.left--
			continue search
		}
		if p.isOver() {
			s.leave(len(asked))
		}
		for s.trail.depth() < len(asked) {
			x := asked[s.trail.depth()]
			if s.trail.isFalse(x) {
				return s.refuse(asked, x)
			}
			s.trail.rise()
			if !s.trail.isTrue(x) {
				s.trail.put(x, none)
				continue search
			}
		}
		x, open := s.pick()
		if !open {
			return s.remember(asked)
		}
		s.trail.rise()
		s.trail.put(x, none)
	}
}

// follow puts all that follows, and tells a clause all of whose literals are false, or none.
func (s *Solver) follow() int {
	conflict := s.trail.follow()
	if s.trail.depth() == 0 {
		s.noteUnits()
	}
	return conflict
}

// isOver tells whether to begin anew, and how long it will be up to the next time.
func (p *pace) isOver() bool {
	if p.left > 0 {
		return false
	}
	p.tries++
	p.left = shortest * luby(p.tries)
	return true
}

// luby tells how many times as long as the shortest one a try is: 1 1 2 1 1 2 4 1 1 2 1 1 2 4 8 ..
func luby(try int) int {
	for {
		size := 1 << bits.Len(uint(try))
		if try == size-1 {
			return size / 2
		}
		try -= size/2 - 1
	}
}

// pick tells the literal that is to be chosen, if a variable that a clause has is left without a value.
func (s *Solver) pick() (lit, bool) {
	for {
		v, waits := s.order.next()
		if !waits {
			return 0, false
		}
		if x := s.order.saved[v]; !s.trail.isTrue(x) && !s.trail.isFalse(x) {
			return x, true
		}
	}
}

// leave goes back to a level, if it is above that.
func (s *Solver) leave(to int) {
	t := &s.trail
levels:
	for t.depth() > to {
		for {
			if len(t.lits) == t.starts[t.depth()-1] {
				t.starts = t.starts[:t.depth()-1]
				continue levels
			}
			s.order.putBack(t.drop())
		}
	}
	t.seen = min(t.seen, len(t.lits))
}

// giveUp answers behind a conflict that hangs on no choice.
func (s *Solver) giveUp(asked []lit, conflict int) (int, api.Errno) {
	if s.trail.depth() == 0 {
		s.refute(conflict)
		return api.Unsat, api.OK
	}
	return s.blame(asked, s.trail.causes(s.trail.clauses[conflict]))
}

// refuse answers behind an assumption that is false because of those ahead of it, or of the clauses alone.
func (s *Solver) refuse(asked []lit, x lit) (int, api.Errno) {
	causes := s.trail.causes([]lit{x})
	causes[x] = true
	return s.blame(asked, causes)
}

// blame answers by those of the assumptions that are among the causes.
func (s *Solver) blame(asked []lit, causes []bool) (int, api.Errno) {
	for _, x := range asked {
		if causes[x] {
			s.told.core = append(s.told.core, x.number())
		}
	}
	return api.Unsat, api.OK
}
