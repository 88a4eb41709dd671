package session

import (
	"slices"

	"plait/api"
	"plait/store"
	"plait/trace"
)

// proof: how the learned clauses come of the emitted ones, by resolutions. A clause's name in it is a number: of an emitted one how many were emitted ahead of it; of one that a step derives that step's place, turned (below 0).
type proof struct {
	known     *store.Store // all clauses; of each learned one what was derived, which may lack some of its literals
	clauses   [][]int      // by their numbers in known
	names     []int        // likewise
	having    [][]int      // by literals' codes: the clauses that have it
	facts     []fact       // by literals' codes
	isSettled bool         // whether all facts are noted
	emitted   int
	steps     []step
}

// fact: of a literal that follows from the clauses alone: the name of its unit clause.
type fact struct {
	isNoted bool
	name    int
}

// step: which clauses are resolved, in order: their names, and of each the place of the one that brought in what it is resolved on; nowhere, if there are several of these, or it is the first clause.
type step struct {
	names, under []int
}

const nowhere = -1

func (s *step) add(name, under int) {
	s.names = append(s.names, name)
	s.under = append(s.under, under)
}

func newProof() *proof { return &proof{known: store.New(api.MaxArena), isSettled: true} }

// len tells how many clauses it has.
func (p *proof) len() int { return len(p.clauses) }

// code tells a literal as a place in a list; its opposite has the other place of the same two.
func code(l int) int {
	if l < 0 {
		return -2*l + 1
	}
	return 2 * l
}

// take takes up the next clause.
func (p *proof) take(clause []int, learned bool) {
	if !learned {
		p.add(clause, p.emitted)
		p.emitted++
		return
	}
	opposites := slices.Clone(clause)
	for i, l := range clause {
		opposites[i] = -l
	}
	s, left := p.derive(opposites)
	p.add(left, p.keep(s))
}

// keep keeps a step, and names its clause.
func (p *proof) keep(s step) int {
	p.steps = append(p.steps, s)
	return ^(len(p.steps) - 1)
}

// add takes up a clause that has a name.
func (p *proof) add(clause []int, name int) {
	p.known.Add(clause)
	open := 0
	for _, l := range clause {
		p.makeRoom(l)
		p.having[code(l)] = append(p.having[code(l)], len(p.clauses))
		if !p.facts[code(-l)].isNoted {
			open++
		}
	}
	if open < 2 {
		p.isSettled = false
	}
	p.clauses = append(p.clauses, clause)
	p.names = append(p.names, name)
}

// makeRoom sees to it that there is room for a literal and its opposite.
func (p *proof) makeRoom(l int) {
	if lack := code(max(l, -l)) + 2 - len(p.having); lack > 0 {
		p.having = append(p.having, make([][]int, lack)...)
		p.facts = append(p.facts, make([]fact, lack)...)
	}
}

// settle notes the facts, and derives their unit clauses: many steps need them.
func (p *proof) settle() {
	if p.isSettled {
		return
	}
	told, _ := p.known.Follow(nil)
	f := p.following(told)
	for at, l := range told {
		if !p.facts[code(l)].isNoted {
			p.facts[code(l)] = fact{true, p.unit(f.reason(at), l)}
		}
	}
	p.isSettled = true
}

// unit names the unit clause of a literal: what is left of a clause, all of whose other literals are opposites of facts.
func (p *proof) unit(ref, l int) int {
	if len(p.clauses[ref]) == 1 {
		return p.names[ref]
	}
	var s step
	s.add(p.names[ref], nowhere)
	for _, x := range p.clauses[ref] {
		if x != l {
			s.add(p.facts[code(-x)].name, 0)
		}
	}
	return p.keep(s)
}

// bytes tells the trace of the empty clause, where the frames' literals are unit clauses behind the emitted ones.
func (p *proof) bytes(frames []int) ([]byte, api.Errno) {
	for _, l := range frames {
		p.makeRoom(l)
	}
	last, left := p.derive(frames)
	for _, l := range left {
		last.add(p.emitted+slices.Index(frames, -l), nowhere)
	}
	w := writer{given: p.emitted + len(frames), steps: append(p.steps[:len(p.steps):len(p.steps)], last)}
	b, e := w.bytes(^len(p.steps))
	if e != api.OK {
		w.steps = shortened(w.steps)
		b, e = w.bytes(^len(p.steps))
	}
	return b, e
}

// writer: of steps as those of a trace.
type writer struct {
	given   int // how many clauses the trace goes from
	steps   []step
	numbers []int // by steps' places: their clauses' numbers in the trace; 0, where they aren't written
	trace   []trace.Step
}

// bytes tells the trace of a clause: its step, and those alone that it needs.
func (w *writer) bytes(name int) ([]byte, api.Errno) {
	w.numbers, w.trace = make([]int, len(w.steps)), nil
	w.number(name)
	return trace.Encode(w.trace)
}

// number tells a clause's number in the trace; if a step derives it, that is written, behind those that it needs.
func (w *writer) number(name int) int {
	if name >= 0 {
		return name
	}
	at := ^name
	if w.numbers[at] == 0 {
		from := make([]int, len(w.steps[at].names))
		for i, n := range w.steps[at].names {
			from[i] = w.number(n)
		}
		w.numbers[at] = w.given + len(w.trace)
		w.trace = append(w.trace, trace.Step{From: from})
	}
	return w.numbers[at]
}
