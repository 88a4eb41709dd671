package blast

import "slices"

// step: of a long division.
type step struct {
	left  word // what the divisor is to be taken from
	flips word // the bits of left that turn, if it is taken
	fits  int  // whether it is: the digit
}

// divide goes by long division, the highest bit first, and tells the digits and the last step. By 0 it tells what it should: 0 fits everywhere, and nothing turns.
func (g *gates) divide(a, b word) (word, step) {
	b = b.shortened()
	digits := filled(no, len(a))
	var last step
	for i := len(a) - 1; i >= 0; i-- {
		last = g.take(word{a[i]}.below(g.behind(last, len(b))), b)
		digits[i] = last.fits
	}
	return digits, last
}

// take lays a step without what it leaves: of the last one only a rest has a use for that.
func (g *gates) take(left, b word) step {
	s := step{left: left}
	borrow := no
	for i, l := range left {
		// Above b only what is borrowed is taken.
		bit := no
		if i < len(b) {
			bit = b[i]
		}
		flip := g.xor(bit, borrow)
		borrow = g.carry(bit, borrow, flip, turn(l))
		s.flips = append(s.flips, flip)
	}
	above := b[min(len(left), len(b)):]
	s.fits = turn(g.or(g.any(above), borrow))
	return s
}

// behind tells what a step leaves, or its n lowest bits.
func (g *gates) behind(s step, n int) word {
	n = min(n, len(s.left))
	return g.unlike(s.left[:n], g.masked(s.fits, s.flips[:n]))
}

// shortened tells a divisor without the bits above that are surely 0, if one of it is surely 1: what a step leaves is less than it, and has no more bits.
func (w word) shortened() word {
	if !slices.Contains(w, yes) {
		return w
	}
	n := len(w)
	for w[n-1] == no {
		n--
	}
	return w[:n:n]
}

func (g *gates) quotient(a, b word) word {
	digits, _ := g.divide(a, b)
	return digits
}

func (g *gates) rest(a, b word) word {
	_, last := g.divide(a, b)
	rest := g.behind(last, len(b.shortened()))
	return rest.extended(len(a)-len(rest), no)
}

func (g *gates) signedQuotient(a, b word) word {
	return g.negated(g.xor(a.top(), b.top()), g.quotient(g.size(a), g.size(b)))
}

func (g *gates) signedRest(a, b word) word {
	return g.negated(a.top(), g.rest(g.size(a), g.size(b)))
}

// signedModulus: the signed rest has a's sign; where b's is the other one, one b more brings it to b's side.
func (g *gates) signedModulus(a, b word) word {
	rest := g.signedRest(a, b)
	astray := g.and(g.any(rest), g.xor(a.top(), b.top()))
	return g.sum(rest, g.masked(astray, b))
}
