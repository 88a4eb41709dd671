package blast

// Bit by bit, and from place to place.

func (g *gates) complement(a word, _, _ int) word { return a.turned() }

func (g *gates) extraction(a word, p, q int) word { return a.cut(p, q) }

func (g *gates) zeroExtension(a word, p, _ int) word { return a.extended(p, no) }

func (g *gates) signExtension(a word, p, _ int) word { return a.extended(p, a.top()) }

func (g *gates) rotationUp(a word, p, _ int) word { return a.round(len(a) - p%len(a)) }

func (g *gates) rotationDown(a word, p, _ int) word { return a.round(p % len(a)) }

func (g *gates) repetition(a word, p, _ int) word {
	var out word
	for range p {
		out = out.below(a)
	}
	return out
}

func (g *gates) joined(a, b word) word { return b.below(a) }

// each lays a gate for each two bits of one place.
func each(gate func(a, b int) int, a, b word) word {
	var out word
	for i := range a {
		out = append(out, gate(a[i], b[i]))
	}
	return out
}

func (g *gates) both(a, b word) word { return each(g.and, a, b) }

func (g *gates) either(a, b word) word { return each(g.or, a, b) }

func (g *gates) unlike(a, b word) word { return each(g.xor, a, b) }

func (g *gates) notBoth(a, b word) word { return g.both(a, b).turned() }

func (g *gates) neither(a, b word) word { return g.either(a, b).turned() }

func (g *gates) like(a, b word) word { return g.unlike(a, b).turned() }

func (g *gates) implied(a, b word) word { return g.either(a.turned(), b) }

// same tells one literal: whether all bits are the same.
func (g *gates) same(a, b word) word {
	return word{turn(g.any(g.unlike(a, b)))}
}

// choice tells a, if c, else b.
func (g *gates) choice(c int, a, b word) word {
	return each(func(a, b int) int { return g.mux(c, a, b) }, a, b)
}

// masked tells a, if c, else 0.
func (g *gates) masked(c int, a word) word { return g.both(filled(c, len(a)), a) }

func (g *gates) shiftUp(a, b word) word {
	return g.shift(a.reversed(), b, no).reversed()
}

func (g *gates) shiftDown(a, b word) word { return g.shift(a, b, no) }

func (g *gates) signedShiftDown(a, b word) word { return g.shift(a, b, a.top()) }

// shift tells a moved down by b's number, while fill comes in above: by 1, by 2, by 4 .. places, as b's bits say.
func (g *gates) shift(a, b word, fill int) word {
	far := 0
	for places := 1; places < len(a); places *= 2 {
		a = g.choice(b[far], a.down(places, fill), a)
		far++
	}
	// Each bit from here on moves all of a out.
	return g.choice(g.any(b[far:]), filled(fill, len(a)), a)
}
