package rewrite_test

import (
	"math"
	"math/rand"
	"testing"

	"plait/api"
	"plait/rewrite"
	"plait/term"
)

// noNodes are numbers that are no node's in a graph.
func noNodes(g *term.Graph) []int {
	return []int{0, -1, -7, g.Len() + 1, g.Len() + 2, api.MaxTerms + 1, 1 << 32, 1<<32 + 1, math.MaxInt, math.MinInt}
}

func TestWeightOfNoNode(t *testing.T) {
	empty := term.New(4)
	some := term.New(4)
	variable(t, some, "x", 4)
	for _, g := range []*term.Graph{empty, some} {
		for _, id := range noNodes(g) {
			if n, e := rewrite.Weight(g, id); n != 0 || e != api.ErrRewriteNone {
				t.Errorf("P7.1: Weight(%d) in a graph of %d: %d, %v", id, g.Len(), n, e)
			}
		}
	}
}

func TestWeightCountsAPartOnce(t *testing.T) {
	g := term.New(api.MaxTerms)
	id := variable(t, g, "x", 128)
	for want := 1; want < 200; want++ {
		if n, e := rewrite.Weight(g, id); n != want || e != api.OK {
			t.Fatalf("P7.1: a sum of %d doublings: %d, %v", want-1, n, e)
		}
		constant(t, g, api.Bits{W: 128, Lo: uint64(want)}) // no part of it
		id = mustMake(t, g, api.Node{Op: api.OpBvAdd, A: id, B: id})
	}
}

func TestWeightOfAFullGraph(t *testing.T) {
	g := term.New(api.MaxTerms)
	id := variable(t, g, "x", 1)
	for range api.MaxTerms - 1 {
		id = mustMake(t, g, api.Node{Op: api.OpBvNot, A: id})
	}
	if n, e := rewrite.Weight(g, id); n != api.MaxTerms || e != api.OK {
		t.Errorf("P7.1: %d, %v; wanted %d", n, e, api.MaxTerms)
	}
}

// reached counts a term's nodes by going down from it.
func reached(g *term.Graph, id int, met map[int]bool) int {
	if id == 0 || met[id] {
		return 0
	}
	met[id] = true
	n, _ := g.Node(id)
	return 1 + reached(g, n.A, met) + reached(g, n.B, met) + reached(g, n.C, met)
}

func TestWeightOfTermsByChance(t *testing.T) {
	for seed := range int64(20) {
		g := someGraph(t, rand.New(rand.NewSource(seed)), 3, 120)
		before := g.Len()
		for id := 1; id <= before; id++ {
			want := reached(g, id, map[int]bool{})
			if n, e := rewrite.Weight(g, id); n != want || e != api.OK {
				t.Fatalf("P7.1: seed %d: Weight(%d): %d, %v; wanted %d", seed, id, n, e, want)
			}
		}
		if g.Len() != before {
			t.Fatalf("P7.1: Weight made nodes: %d, %d", before, g.Len())
		}
	}
}
