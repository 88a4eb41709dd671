package ddbits

import (
	"plait/api"
	"plait/term"
)

// part: of a term.
type part struct {
	node  api.Node
	known bool     // whether it has no variables
	value api.Bits // of a known one
	needs int      // how many parts are held at once, at least, while it is made
	takes []int    // by bits: how often each will be taken yet
	bits  []int    // by bits: their diagrams, where they are held
	top   int      // bits from here on are never taken

	// Of what is streamed:
	next   int   // the bit that comes next
	carry  int   // of a sum or a difference: what goes into that bit
	factor []int // of a product: what is added for each digit that is 1
	above  []int // of a product: the sum so far, from that bit on
}

// notMade: in the place of a bit's diagram.
const notMade = -1

// isLeaf tells whether a part's bits are at hand at any time, so that none is held.
func (p *part) isLeaf() bool { return p.known || p.node.Op == api.OpVar }

// operands tells a node's operands.
func operands(n api.Node) []int {
	all := []int{n.A, n.B, n.C}
	return all[:term.Arity(n.Op)]
}

// How an operator's bits are made.
const (
	separate = iota // each by itself
	streamed        // one behind the other, bit 0 first
	compared        // a single one, by going over the operands' bits
	whole           // all together
)

func shapeOf(op int) int {
	switch op {
	case api.OpBvAdd, api.OpBvSub, api.OpBvNeg, api.OpBvMul:
		return streamed
	case api.OpEq, api.OpComp, api.OpUlt, api.OpUle, api.OpUgt, api.OpUge, api.OpSlt, api.OpSle, api.OpSgt, api.OpSge:
		return compared
	case api.OpBvUdiv, api.OpBvUrem, api.OpBvSdiv, api.OpBvSrem, api.OpBvSmod:
		return whole
	}
	return separate
}

func isShift(op int) bool { return op >= api.OpBvShl && op <= api.OpBvAshr }
