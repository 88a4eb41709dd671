package blast

import "slices"

func (g *gates) sum(a, b word) word {
	var out word
	carry := no
	for i := range a {
		x, y, z := paired(a[i], b[i], carry)
		half := g.xor(x, y)
		out = append(out, g.xor(half, z))
		// What is carried out of the highest bit is nobody's: it isn't laid.
		if i+1 < len(a) {
			carry = g.carry(x, y, half, z)
		}
	}
	return out
}

// difference goes by what a lacks to all bits 1: that grows by b.
func (g *gates) difference(a, b word) word {
	return g.sum(a.turned(), b).turned()
}

func (g *gates) negation(a word, _, _ int) word { return g.negated(yes, a) }

// negated tells 2^W less a's number, if c, else a: all bits are turned that have a 1 somewhere below them.
func (g *gates) negated(c int, a word) word {
	var out word
	one := no
	for i := range a {
		if i > 0 {
			one = g.or(one, a[i-1])
		}
		out = append(out, g.xor(a[i], g.and(c, one)))
	}
	return out
}

// size tells that of the signed number.
func (g *gates) size(a word) word { return g.negated(a.top(), a) }

// product sums b, moved up by i places, for each digit i of a.
func (g *gates) product(a, b word) word {
	a, b = inOrder(a, b)
	plus, minus := a.digits()
	out := filled(no, len(a))
	for i := range a {
		row := b.cut(len(b)-1-i, 0)
		above := g.sum(out[i:], g.masked(plus[i], row))
		above = g.difference(above, g.masked(minus[i], row))
		out = out.cut(i-1, 0).below(above)
	}
	return out
}

// inOrder tells both in one order, whichever comes first: a product has one circuit then. A constant is the first one: its digits that are 0 cost nothing.
func inOrder(a, b word) (word, word) {
	fixedA, fixedB := a.fixed(), b.fixed()
	if fixedA < fixedB || fixedA == fixedB && slices.Compare(a, b) > 0 {
		return b, a
	}
	return a, b
}

// fixed tells how many bits are constants.
func (w word) fixed() int { return w.count(no) + w.count(yes) }

func (w word) count(l int) int {
	n := 0
	for _, m := range w {
		if m == l {
			n++
		}
	}
	return n
}

// digits tells w as what is added less what is taken away: its bits less nothing, or, of a constant, signed digits, if fewer of these are there to be summed.
func (w word) digits() (plus, minus word) {
	if w.fixed() == len(w) {
		plus, minus = w.signedDigits()
		if plus.count(yes)+minus.count(yes) < w.count(yes) {
			return plus, minus
		}
	}
	return w, filled(no, len(w))
}

// signedDigits makes of many bits 1, one above the other, one digit above them, less one at the lowest: 0111 is 1000 less 1. It asks for a constant, whose literals are its bits.
func (w word) signedDigits() (plus, minus word) {
	plus, minus = filled(no, len(w)), filled(no, len(w))
	carry := 0
	for i, bit := range w {
		switch {
		case bit == carry:
			// 0 has no digit; 2 has none either, and is carried on.
		case i+1 < len(w) && w[i+1] == yes:
			minus[i], carry = yes, 1
		default:
			plus[i], carry = yes, 0
		}
	}
	return plus, minus
}
