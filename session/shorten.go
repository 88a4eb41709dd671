package session

import "slices"

// Many steps resolve the same two clauses with one another. Where a step of its own does that, they name one clause in the place of two.

// pair: the names of a clause, and of one that takes away a literal which no other clause of the step brings in.
type pair [2]int

const (
	rounds = 8 // how often steps are gone through for pairs; later ones find hardly any
	worth  = 4 // how often a pair stands there, at least, for a step to be made of it: that takes three numbers
)

// shortener: of steps.
type shortener struct {
	counts map[pair]int // how often each stands in the steps
	made   map[pair]int // the names of the clauses that steps make of pairs
	steps  []step       // those that are to be shortened, and behind them those of pairs
}

// shortened tells steps of the same clauses that name fewer of them, and behind these others that they need.
func shortened(steps []step) []step {
	s := shortener{made: map[pair]int{}, steps: slices.Clone(steps)}
	for range rounds {
		s.counts = map[pair]int{}
		for i := range len(steps) {
			s.count(s.steps[i])
		}
		for i := range len(steps) {
			s.steps[i] = s.joined(s.steps[i])
		}
	}
	return s.steps
}

func (s *shortener) count(x step) {
	for at, under := range x.under {
		if under != nowhere {
			s.counts[pair{x.names[under], x.names[at]}]++
		}
	}
}

// joined tells a step with clauses of pairs in the place of two; none of them is one of a pair again.
func (s *shortener) joined(x step) step {
	var short step
	places := make([]int, len(x.names))  // by places in x: those in short
	isPair := make([]bool, len(x.names)) // by places in short
	for at, under := range x.under {
		if under != nowhere {
			under = places[under]
			k := pair{short.names[under], x.names[at]}
			if !isPair[under] && s.isWorth(k) {
				short.names[under] = s.make(k)
				isPair[under] = true
				places[at] = under
				continue
			}
		}
		places[at] = len(short.names)
		short.add(x.names[at], under)
	}
	return short
}

func (s *shortener) isWorth(k pair) bool {
	_, ok := s.made[k]
	return ok || s.counts[k] >= worth
}

// make names the clause of a pair.
func (s *shortener) make(k pair) int {
	if name, ok := s.made[k]; ok {
		return name
	}
	s.steps = append(s.steps, step{names: []int{k[0], k[1]}})
	s.made[k] = ^(len(s.steps) - 1)
	return s.made[k]
}
