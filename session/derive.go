package session

// following: what follows from literals.
type following struct {
	proof  *proof
	told   []int
	places []int // by literals' codes: 1 more than the place in told; 0, if it isn't there
}

func (p *proof) following(told []int) following {
	f := following{proof: p, told: told, places: make([]int, len(p.having))}
	for i, l := range told {
		f.places[code(l)] = i + 1
	}
	return f
}

// reason tells a clause whose last one left the literal at a place was.
func (f *following) reason(at int) int {
	for _, ref := range f.proof.having[code(f.told[at])] {
		if f.isReason(f.proof.clauses[ref], at) {
			return ref
		}
	}
	return nowhere
}

// isReason tells whether all literals of a clause but the one at a place were false ahead of it.
func (f *following) isReason(clause []int, at int) bool {
	for _, l := range clause {
		if place := f.places[code(-l)]; l != f.told[at] && (place == 0 || place > at) {
			return false
		}
	}
	return true
}

// derivation: a step while it is found.
type derivation struct {
	following
	step     step
	isGiven  []bool // by literals' codes: those from which the others follow
	isNeeded []bool // by places in told: whether its opposite is to be resolved away
	bringers []int  // by literals' codes: 1 more than the place in the step of the clause that brought it in; 0 of none, several of more than one
	units    []int  // the literals that are resolved away last, by facts
	left     []int  // those that stay
}

const several = -1

// derive tells how to resolve clauses so that opposites of certain literals alone are left, and which these are. What follows from these literals can't all be true.
func (p *proof) derive(lits []int) (step, []int) {
	p.settle()
	told, end := p.known.Follow(lits)
	d := derivation{
		following: p.following(told),
		isGiven:   make([]bool, len(p.having)),
		isNeeded:  make([]bool, len(told)),
		bringers:  make([]int, len(p.having)),
	}
	for _, l := range lits {
		d.isGiven[code(l)] = true
	}
	if end < 0 {
		end = d.reasonAgainst(lits)
	}
	d.resolve(end, 0)
	for at := len(told) - 1; at >= 0; at-- {
		if d.isNeeded[at] {
			d.resolve(d.reason(at), told[at])
		}
	}
	for _, l := range d.units {
		d.step.add(p.facts[code(-l)].name, d.under(l))
	}
	return d.step, d.left
}

// reasonAgainst tells a clause by which the first literal that can't be set is false.
func (d *derivation) reasonAgainst(lits []int) int {
	for _, l := range lits {
		if place := d.places[code(-l)]; place > 0 {
			return d.reason(place - 1)
		}
	}
	return nowhere
}

// resolve takes in a clause, which is resolved on a literal of it (the first one on none).
func (d *derivation) resolve(ref, on int) {
	place := len(d.step.names)
	d.step.add(d.proof.names[ref], d.under(-on))
	for _, l := range d.proof.clauses[ref] {
		switch {
		case l == on:
		case d.bringers[code(l)] == 0:
			d.bringers[code(l)] = place + 1
			d.bring(l)
		default:
			d.bringers[code(l)] = several
		}
	}
}

// under tells the place of the clause that brought a literal in, if there is just one.
func (d *derivation) under(l int) int { return max(d.bringers[code(l)]-1, nowhere) }

// bring sees to a literal that was brought in.
func (d *derivation) bring(l int) {
	switch {
	case d.isGiven[code(-l)]:
		d.left = append(d.left, l)
	case d.proof.facts[code(-l)].isNoted:
		d.units = append(d.units, l)
	default:
		d.isNeeded[d.places[code(-l)]-1] = true
	}
}
