package cnf_test

import (
	"math/rand"
	"slices"
	"testing"

	"plait/api"
)

// Every two roots among all literals of an xor's graph, the constants too.
func TestEveryTwoRootsOfAnXor(t *testing.T) {
	for first := range 12 {
		for second := range 12 {
			b := newBench(t, 2, 1)
			if l, err := b.g.Xor(2, 4); l != 11 || err != api.OK {
				t.Fatalf("Xor: %d, %v", l, err)
			}
			b.root(first)
			b.checkMeaning()
			b.root(second)
			b.checkMeaning()
			b.checkForm()
		}
	}
}

// Graphs and roots by chance; ands are made, and fresh variables told, between roots.
func TestMeaningByChance(t *testing.T) {
	r := rand.New(rand.NewSource(10))
	for range 400 {
		b := newBench(t, 1+r.Intn(3), 1)
		need := needed{b.g, map[int]bool{}}
		fresh := 0
		for range 5 {
			b.chance(r, r.Intn(3))
			if r.Intn(4) == 0 && b.e.Vars() < 10 {
				v, err := b.e.Fresh()
				if v != b.e.Vars() || err != api.OK || slices.Contains(b.names(), v) {
					t.Fatalf("P10.1: Fresh: %d, %v; Vars: %d, nodes have %v", v, err, b.e.Vars(), b.names())
				}
				fresh++
			}
			l := r.Intn(2*b.g.Nodes() + 2)
			b.root(l)
			need.add(l)
			b.checkForm()
			if len(b.clauses) != need.clauses() || b.e.Vars() != need.variables()+fresh {
				t.Fatalf("P10.3: roots %v: %d clauses, %d variables; should be %d, %d", b.roots, len(b.clauses), b.e.Vars(), need.clauses(), need.variables()+fresh)
			}
			if b.e.Vars() <= 12 {
				b.checkMeaning()
			}
		}
	}
}

// Each and has at most three clauses, whatever is asked, in whatever order; asked again, a root tells none.
func TestAllLiteralsAreRoots(t *testing.T) {
	r := rand.New(rand.NewSource(11))
	for range 100 {
		b := newBench(t, 4, 1+r.Intn(50))
		b.chance(r, 30)
		ands := b.g.Nodes() - 4
		for _, l := range r.Perm(2*b.g.Nodes() + 2) {
			b.root(l)
		}
		if len(b.clauses) != 3*ands+1 {
			t.Errorf("P10.3: %d clauses of %d ands and the constant", len(b.clauses), ands)
		}
		b.checkForm()
		vars := b.e.Vars()
		for _, x := range slices.Clone(b.roots) {
			if again, clauses := b.root(x.l); again != x.r || len(clauses) != 0 {
				t.Errorf("P10.3: Root(%d) again: %d, %v; was %d", x.l, again, clauses, x.r)
			}
		}
		if b.e.Vars() != vars {
			t.Errorf("P10.3: roots asked again made variables: %d, %d", vars, b.e.Vars())
		}
	}
}

// A literal and its opposite are told as opposites: units of both can't hold.
func TestOppositeRoots(t *testing.T) {
	r := rand.New(rand.NewSource(12))
	for range 50 {
		b := newBench(t, 3, 1)
		b.chance(r, 10)
		for l := 0; l < 2*b.g.Nodes()+2; l += 2 {
			x, _ := b.root(l)
			y, _ := b.root(l ^ 1)
			if x != -y {
				t.Errorf("P10.2: Root(%d): %d, Root(%d): %d", l, x, l^1, y)
			}
			if v, ok := b.e.Of(l / 2); v != x || !ok {
				t.Errorf("P10.1: Of(%d): %d, %v; Root(%d): %d", l/2, v, ok, l, x)
			}
		}
	}
}
