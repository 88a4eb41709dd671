package blast

func (g *gates) less(a, b word) word {
	less := no
	for i := range a {
		less = g.majority(turn(a[i]), b[i], less)
	}
	return word{less}
}

func (g *gates) greater(a, b word) word { return g.less(b, a) }

func (g *gates) atMost(a, b word) word { return g.less(b, a).turned() }

func (g *gates) atLeast(a, b word) word { return g.less(a, b).turned() }

// signedLess goes by the numbers, with the highest bits turned.
func (g *gates) signedLess(a, b word) word {
	return g.less(a.topTurned(), b.topTurned())
}

func (g *gates) signedGreater(a, b word) word { return g.signedLess(b, a) }

func (g *gates) signedAtMost(a, b word) word { return g.signedLess(b, a).turned() }

func (g *gates) signedAtLeast(a, b word) word { return g.signedLess(a, b).turned() }

func (w word) topTurned() word {
	n := len(w) - 1
	return w[:n:n].extended(1, turn(w[n]))
}
