package dd

import (
	"strconv"
	"strings"
)

// A piece of a decimal has so many digits: two pieces together still go into a word.
const (
	pieceDigits = 18
	pieceEnd    = 1_000_000_000_000_000_000
	pieceBits   = 59 // so many bits go into a piece, whatever they are
)

// decimal: a number's digits in pieces, the lowest piece first. All numbers of a count have as many pieces.
type decimal []uint64

// count tells under how many assignments of all variables a diagram is true.
func (m *Manager) count(f int) decimal {
	counts := make([]decimal, len(m.table.nodes))
	counts[0] = make(decimal, m.vars/pieceBits+1)
	counts[1] = powerOfTwo(m.vars)
	w := m.table.walk()
	w.visit(f)
	for _, f := range w.order {
		// Of each of its two diagrams half the assignments have the variable as it asks, since neither has that variable.
		n := m.table.nodes[f]
		counts[f] = mean(counts[n[low]], counts[n[high]])
	}
	return counts[f]
}

// powerOfTwo tells 2^n, with room for a sum of two lesser ones.
func powerOfTwo(n int) decimal {
	d := make(decimal, n/pieceBits+1)
	d[0] = 1
	for range n {
		d = sum(d, d)
	}
	return d
}

// sum tells a + b, which has no more pieces than these.
func sum(a, b decimal) decimal {
	s := make(decimal, len(a))
	var carry uint64
	for i := range s {
		s[i] = a[i] + b[i] + carry
		carry = s[i] / pieceEnd
		s[i] %= pieceEnd
	}
	return s
}

// mean tells half of a + b, which is even.
func mean(a, b decimal) decimal {
	s := sum(a, b)
	var rest uint64
	for i := len(s) - 1; i >= 0; i-- {
		s[i] += rest * pieceEnd
		rest = s[i] % 2
		s[i] /= 2
	}
	return s
}

// text tells the digits, without noughts ahead.
func (d decimal) text() string {
	top := len(d) - 1
	for top > 0 && d[top] == 0 {
		top--
	}
	var b strings.Builder
	b.WriteString(strconv.FormatUint(d[top], 10))
	for i := top - 1; i >= 0; i-- {
		piece := strconv.FormatUint(d[i], 10)
		b.WriteString(strings.Repeat("0", pieceDigits-len(piece)))
		b.WriteString(piece)
	}
	return b.String()
}
