package blast

import (
	"slices"

	"plait/api"
	"plait/bv"
)

// word: the literals of bits, bit 0 first; a Bool has one. No word is written to once it is told: a part of it may be a word of its own, in the same memory. Whatever is appended to is therefore cut with three indices first.
type word []int

// The literals that are no node's.
const (
	no  = 0
	yes = 1
)

// turn tells a literal turned.
func turn(l int) int { return l ^ 1 }

// constant tells the literals of a value.
func constant(v api.Bits) word {
	if v.W == 0 {
		return word{literal(v == bv.Bool(true))}
	}
	var out word
	for i := range v.W {
		bit, _ := bv.Bit(v, i)
		out = append(out, literal(bit))
	}
	return out
}

func literal(b bool) int {
	if b {
		return yes
	}
	return no
}

// filled tells a word of n bits that are all one literal.
func filled(l, n int) word {
	return slices.Repeat(word{l}, n)
}

// top tells the highest bit.
func (w word) top() int { return w[len(w)-1] }

func (w word) turned() word {
	var out word
	for _, l := range w {
		out = append(out, turn(l))
	}
	return out
}

// reversed tells the highest bit first.
func (w word) reversed() word {
	out := slices.Clone(w)
	slices.Reverse(out)
	return out
}

// cut tells the bits q to p.
func (w word) cut(p, q int) word { return w[q : p+1 : p+1] }

// below tells w with another one above it.
func (w word) below(above word) word {
	return append(w[:len(w):len(w)], above...)
}

// extended tells w with n bits more above.
func (w word) extended(n, fill int) word { return w.below(filled(fill, n)) }

// down tells w moved down by n places, at most as many as there are, while fill comes in above.
func (w word) down(n, fill int) word {
	return w[n:len(w):len(w)].extended(n, fill)
}

// round tells w turned round so that bit n comes to be bit 0.
func (w word) round(n int) word {
	return w[n:len(w):len(w)].below(w[:n:n])
}
