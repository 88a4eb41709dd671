package session

import (
	"slices"

	"plait/api"
	"plait/eval"
)

// engine: what decides a question.
type engine interface {
	check(q question) report
	// clauses tells what it emitted up to a check.
	clauses(r report) [][]int
	// trace tells why a check without assumptions told Unsat.
	trace(r report) ([]byte, api.Errno)
}

// question: whether all that is asserted, and all that is assumed, can be true: terms, by their numbers.
type question struct {
	frames []frame
	assume []int
}

// report: what an engine told of a question.
type report struct {
	engine  engine
	assumed int // how many assumptions there were
	verdict int
	refused api.Errno
	model   []api.Named // behind Sat
	core    []int       // behind Unsat
	learned [][]int
	frames  []int // the clause literals of the frames, where they have some
}

// Check tells a verdict.
func (s *Session) Check(assume []api.Sexp) (int, api.Errno) {
	s.isOpen = false
	q := question{frames: s.frames}
	for _, x := range assume {
		id, e := s.readBool(x)
		if e != api.OK {
			return api.Unknown, e
		}
		q.assume = append(q.assume, id)
	}
	s.last = s.engine.check(q)
	s.last.engine, s.last.assumed = s.engine, len(assume)
	s.isOpen = true
	return s.last.verdict, s.last.refused
}

// isBehind tells whether there is what stands behind a check that told a verdict.
func (s *Session) isBehind(verdict int) bool { return s.isOpen && s.last.verdict == verdict }

// Model tells a value for each name.
func (s *Session) Model() ([]api.Named, api.Errno) {
	if !s.isBehind(api.Sat) {
		return nil, api.ErrSessionModel
	}
	return slices.Clone(s.last.model), api.OK
}

// Get tells a term's value.
func (s *Session) Get(x api.Sexp) (api.Bits, api.Errno) {
	if !s.isBehind(api.Sat) {
		return api.Bits{}, api.ErrSessionModel
	}
	id, e := s.scope.Term(x)
	if e != api.OK {
		return api.Bits{}, e
	}
	return eval.Eval(s.terms, id, s.last.model)
}

// Core tells which assumptions are enough.
func (s *Session) Core() ([]int, api.Errno) {
	if !s.isBehind(api.Unsat) {
		return nil, api.ErrSessionTrace
	}
	return slices.Clone(s.last.core), api.OK
}

// Trace tells why.
func (s *Session) Trace() ([]byte, api.Errno) {
	if !s.isBehind(api.Unsat) || s.last.assumed > 0 {
		return nil, api.ErrSessionTrace
	}
	return s.last.engine.trace(s.last)
}

// Clauses tells what was emitted, and the frames' units.
func (s *Session) Clauses() [][]int { return s.last.engine.clauses(s.last) }

// Learned tells what the last check learned.
func (s *Session) Learned() [][]int {
	var learned [][]int
	for _, clause := range s.last.learned {
		learned = append(learned, slices.Clone(clause))
	}
	return learned
}

// Count tells how many assignments there are.
func (s *Session) Count() (string, api.Errno) {
	return s.diagrams.count(question{frames: s.frames})
}

// terms tells all that is asked to be true, each once.
func (q question) terms() []int {
	var ids []int
	met := map[int]struct{}{}
	take := func(l []int) {
		for _, id := range l {
			if _, again := met[id]; !again {
				met[id] = struct{}{}
				ids = append(ids, id)
			}
		}
	}
	for _, f := range q.frames {
		take(f.terms)
	}
	take(q.assume)
	return ids
}
