package sat

import (
	"slices"

	"plait/api"
	"plait/trace"
)

// proof: how the clauses that weren't added came of others. A clause's name in it is a number: of an added one how many were added ahead of it; of one that a step derives that step's place, turned (below 0).
type proof struct {
	added int     // how many clauses were added
	names []int   // by clauses' numbers
	steps [][]int // the names of the clauses that are resolved
	units []int   // by variables that have a value at level 0: the name of the clause of that literal alone
	noted int     // how many of these there are
	last  []int   // a step that derives the empty clause, if there is one
}

// makeRoom sees to it that there is room for a variable.
func (p *proof) makeRoom(v uint) {
	if lack := int(v) + 1 - len(p.units); lack > 0 {
		p.units = append(p.units, make([]int, lack)...)
	}
}

// nameAdded names a new clause that was added.
func (p *proof) nameAdded() {
	p.names = append(p.names, p.added)
	p.added++
}

// nameLearned names a new clause that a step derives.
func (p *proof) nameLearned(step []int) { p.names = append(p.names, p.take(step)) }

// take keeps a step, and names its clause.
func (p *proof) take(step []int) int {
	p.steps = append(p.steps, step)
	return ^(len(p.steps) - 1)
}

// isAdded tells whether a clause was added.
func (p *proof) isAdded(ref int) bool { return p.names[ref] >= 0 }

// closed tells whether the empty clause is derived.
func (p *proof) closed() bool { return len(p.last) > 0 }

// refute takes up a clause all of whose literals are false at level 0.
func (s *Solver) refute(ref int) {
	s.noteUnits()
	s.proof.last = s.unitSteps(ref, s.trail.clauses[ref])
}

// noteUnits derives, for each new literal of level 0, the clause of it alone.
func (s *Solver) noteUnits() {
	for _, x := range s.trail.lits[s.proof.noted:] {
		ref := s.trail.reason(x)
		name := s.proof.names[ref]
		if rest := s.trail.clauses[ref][1:]; len(rest) > 0 {
			name = s.proof.take(s.unitSteps(ref, rest))
		}
		s.proof.units[x.variable()] = name
		s.proof.noted++
	}
}

// unitSteps tells how to resolve a clause so that literals which are false at level 0 are left out.
func (s *Solver) unitSteps(ref int, lits []lit) []int {
	step := []int{s.proof.names[ref]}
	for _, x := range lits {
		step = append(step, s.proof.units[x.variable()])
	}
	return step
}

// derivation: a step while it is found.
type derivation struct {
	solver *Solver
	marks  []uint8 // by variables
	names  []int   // of the clauses that are resolved
	units  []int   // of those that are resolved last: they have one literal alone
	open   int     // how many literals are still to be left out
}

// What a derivation knows of a variable.
const (
	absent   = iota
	staying  // it is to be left
	replaced // it isn't
)

// derive tells how to resolve a clause so that just those literals are left that are to be kept: one after the other, the last one that came to be first, is replaced by those that made it false.
func (s *Solver) derive(ref int, keep []lit) []int {
	t := &s.trail
	d := derivation{solver: s, marks: make([]uint8, len(t.levels))}
	for _, x := range keep {
		d.marks[x.variable()] = staying
	}
	d.resolve(ref)
	for at := len(t.lits) - 1; d.open > 0; at-- {
		if x := t.lits[at]; d.marks[x.variable()] == replaced {
			d.open--
			d.resolve(t.reason(x))
		}
	}
	return append(d.names, d.units...)
}

// resolve takes a clause's literals in.
func (d *derivation) resolve(ref int) {
	d.names = append(d.names, d.solver.proof.names[ref])
	for _, x := range d.solver.trail.clauses[ref] {
		v := x.variable()
		if d.marks[v] != absent {
			continue
		}
		d.marks[v] = replaced
		if d.solver.trail.level(x) == 0 {
			d.units = append(d.units, d.solver.proof.units[v])
		} else {
			d.open++
		}
	}
}

// bytes tells the trace of the empty clause: its step, and those alone that it needs.
func (p *proof) bytes() ([]byte, api.Errno) {
	var steps []trace.Step
	numbers := make([]int, len(p.steps)) // of the steps' clauses, in the trace
	for i, need := range p.needed() {
		if need {
			numbers[i] = p.added + len(steps)
			steps = append(steps, step(p.steps[i], numbers))
		}
	}
	return trace.Encode(append(steps, step(p.last, numbers)))
}

// needed tells of each step whether the last one needs it. Each names earlier clauses alone: so all that need a step are known when it is come to from behind.
func (p *proof) needed() []bool {
	need := make([]bool, len(p.steps))
	mark := func(names []int) {
		for _, n := range names {
			if n < 0 {
				need[^n] = true
			}
		}
	}
	mark(p.last)
	for i, names := range slices.Backward(p.steps) {
		if need[i] {
			mark(names)
		}
	}
	return need
}

// step tells a step of a trace by names, and the numbers that steps' clauses have there.
func step(names, numbers []int) trace.Step {
	from := slices.Clone(names)
	for i, n := range names {
		if n < 0 {
			from[i] = numbers[^n]
		}
	}
	return trace.Step{From: from}
}
