package sat

import "plait/api"

// lit: a literal as an unsigned number: twice its variable, and 1, if it is turned.
type lit uint

// isNoLiteral tells whether a number is no literal.
func isNoLiteral(l int) bool {
	return l == 0 || l < -api.MaxVars || l > api.MaxVars
}

// litOf tells a literal's unsigned number.
func litOf(l int) lit {
	if l < 0 {
		return lit(-l)<<1 | 1
	}
	return lit(l) << 1
}

// litsOf tells the unsigned numbers of literals.
func litsOf(literals []int) []lit {
	lits := make([]lit, len(literals))
	for i, l := range literals {
		lits[i] = litOf(l)
	}
	return lits
}

// once tells the unsigned numbers of literals, each at its first place.
func once(literals []int) []lit {
	var lits []lit
	met := map[int]struct{}{}
	for _, l := range literals {
		if _, again := met[l]; !again {
			met[l] = struct{}{}
			lits = append(lits, litOf(l))
		}
	}
	return lits
}

// turned tells the opposite.
func (x lit) turned() lit { return x ^ 1 }

// isTurned tells whether it is true where its variable is false.
func (x lit) isTurned() bool { return x&1 == 1 }

// variable tells its variable.
func (x lit) variable() uint { return uint(x >> 1) }

// number tells the literal as clauses have it.
func (x lit) number() int {
	if x.isTurned() {
		return -int(x.variable())
	}
	return int(x.variable())
}

// numbersOf tells literals as clauses have them.
func numbersOf(lits []lit) []int {
	numbers := make([]int, len(lits))
	for i, x := range lits {
		numbers[i] = x.number()
	}
	return numbers
}
