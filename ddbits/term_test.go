package ddbits_test

import (
	"math"
	"math/rand"
	"slices"
	"testing"

	"plait/api"
	"plait/bv"
	"plait/ddbits"
)

// checkTerms asks for each term, holds it against the evaluator, and drops it.
func (b *bench) checkTerms(ids []int, envs [][]api.Named) {
	b.Helper()
	for _, id := range ids {
		l := b.bits(id)
		b.checkMeaning(id, l, envs)
		b.drop(l)
		b.checkNothingPinned()
	}
}

func TestOperatorsOfWords(t *testing.T) {
	for w := 1; w <= 4; w++ {
		b := newBench(t)
		x, y, p := b.variable("x", w), b.variable("y", w), b.variable("p", 0)
		ids := append(b.applied(x, y, true), b.applied(y, x, true)...)
		ids = append(ids, x, y, p, b.node(api.Node{Op: api.OpIte, A: p, B: x, C: y}))
		b.open(api.MaxNodes)
		b.checkTerms(ids, assignments(api.Param{Name: "x", Sort: w}, api.Param{Name: "y", Sort: w}, api.Param{Name: "p"}))
	}
}

func TestOperatorsOfWiderWords(t *testing.T) {
	source := rand.New(rand.NewSource(1))
	for _, w := range []int{5, 6, 7, 8, 9, 31, 33, 64} {
		b := newBench(t)
		x, y, p := b.variable("x", w), b.variable("y", w), b.variable("p", 0)
		ids := append(b.applied(x, y, w <= 7), b.node(api.Node{Op: api.OpIte, A: p, B: x, C: y}))
		b.open(api.MaxNodes)
		b.checkTerms(ids, b.some(source, 60))
	}
}

// Of MaxWidth all has room but what carries over all bits of two words.
func TestOperatorsOfMaxWidth(t *testing.T) {
	source := rand.New(rand.NewSource(2))
	b := newBench(t)
	x, y, p := b.variable("x", api.MaxWidth), b.variable("y", api.MaxWidth), b.variable("p", 0)
	ids := append(b.applied(x, y, false), b.node(api.Node{Op: api.OpIte, A: p, B: x, C: y}))
	ids = slices.DeleteFunc(ids, func(id int) bool {
		n, _ := b.terms.Node(id)
		return n.Op == api.OpBvAdd || n.Op == api.OpBvSub
	})
	b.open(api.MaxNodes)
	b.checkTerms(ids, b.some(source, 20))
}

func TestOperatorsOfBools(t *testing.T) {
	b := newBench(t)
	parts := []int{
		b.variable("p", 0), b.variable("q", 0), b.variable("r", 0),
		b.constant(bv.Bool(false)), b.constant(bv.Bool(true)),
	}
	var ids []int
	for _, x := range parts {
		ids = append(ids, x, b.node(api.Node{Op: api.OpNot, A: x}))
		for _, y := range parts {
			for op := api.OpAnd; op <= api.OpEq; op++ {
				ids = append(ids, b.two(op, x, y))
			}
			for _, z := range parts {
				ids = append(ids, b.node(api.Node{Op: api.OpIte, A: x, B: y, C: z}))
			}
		}
	}
	b.open(api.MaxNodes)
	b.checkTerms(ids, assignments(api.Param{Name: "p"}, api.Param{Name: "q"}, api.Param{Name: "r"}))
}

// One operand is a constant, or both are.
func TestConstants(t *testing.T) {
	for w := 1; w <= 4; w++ {
		b := newBench(t)
		x := b.variable("x", w)
		var ids []int
		for i := range 1 << w {
			c := b.number(w, uint64(i))
			for op := api.OpBvAnd; op <= api.OpConcat; op++ {
				ids = append(ids, b.two(op, x, c), b.two(op, c, x), b.two(op, c, b.number(w, uint64(3*i+1))))
			}
			ids = append(ids, c, b.two(api.OpEq, x, c), b.two(api.OpEq, c, x), b.node(api.Node{Op: api.OpBvNeg, A: c}))
			for _, n := range places(w) {
				n.A = c
				ids = append(ids, b.node(n))
			}
		}
		b.open(api.MaxNodes)
		b.checkTerms(ids, assignments(api.Param{Name: "x", Sort: w}))
	}
}

func TestWideConstants(t *testing.T) {
	source := rand.New(rand.NewSource(3))
	for _, w := range []int{33, 64, 65, 128} {
		b := newBench(t)
		x := b.variable("x", w)
		var ids []int
		for _, c := range []api.Bits{
			value(w, 0, 0), value(w, 1, 0), value(w, 3, 0), value(w, 8, 0), value(w, uint64(w-1), 0), value(w, uint64(w), 0), value(w, uint64(w+1), 0),
			value(w, 0, 1), value(w, math.MaxUint64, math.MaxUint64), value(w, 0, 1<<63),
		} {
			for _, op := range []int{api.OpBvAnd, api.OpBvXnor, api.OpBvAdd, api.OpBvSub, api.OpBvShl, api.OpBvLshr, api.OpBvAshr, api.OpUlt, api.OpSge, api.OpEq, api.OpComp} {
				ids = append(ids, b.two(op, x, b.constant(c)), b.two(op, b.constant(c), x))
			}
		}
		for _, n := range []uint64{1, 2, 3, 8} {
			ids = append(ids, b.two(api.OpBvUrem, x, b.number(w, n)))
			// Of 128 bits, three times a word has more nodes than there may be.
			if w < api.MaxWidth || n != 3 {
				ids = append(ids, b.two(api.OpBvMul, x, b.number(w, n)), b.two(api.OpBvMul, b.number(w, n), x))
			}
		}
		b.open(api.MaxNodes)
		b.checkTerms(ids, b.some(source, 20))
	}
}

// A word and what is made of it: parts that are taken at several places, in another order each time.
func TestSameOperands(t *testing.T) {
	for w := 1; w <= 3; w++ {
		b := newBench(t)
		x, one := b.variable("x", w), b.number(w, 1)
		parts := []int{
			x, b.node(api.Node{Op: api.OpBvNot, A: x}), b.node(api.Node{Op: api.OpBvNeg, A: x}), b.two(api.OpBvAdd, x, one),
			b.two(api.OpBvMul, x, x), b.two(api.OpBvShl, x, one), b.node(api.Node{Op: api.OpRotl, A: x, P: 1}), b.two(api.OpBvUdiv, x, b.number(w, 3)),
		}
		var ids []int
		for _, y := range parts {
			for _, z := range parts {
				for op := api.OpBvAnd; op <= api.OpConcat; op++ {
					ids = append(ids, b.two(op, y, z))
				}
			}
		}
		b.open(api.MaxNodes)
		b.checkTerms(ids, assignments(api.Param{Name: "x", Sort: w}))
	}
}

// Terms of terms, by chance, in much room and in little: what is told has the term's value and is pinned once more; what is refused leaves the pins as they were.
func TestRandomTerms(t *testing.T) {
	source := rand.New(rand.NewSource(4))
	refused := 0
	for round := range 200 {
		b := newBench(t)
		b.sown(source, 1+round%6, 50)
		b.open([]int{api.MaxNodes, 400, 120, 40, 15}[round%5])
		envs := b.some(source, 40)
		kept := map[int][]int{}
		for _, i := range source.Perm(b.terms.Len()) {
			before := b.Manager().Live()
			l, e := b.Term(i + 1)
			if e != api.OK {
				refused++
				if e != api.ErrDdNodes || len(l) > 0 || b.Manager().Live() != before {
					t.Fatalf("P15.2: round %d: Term(%d): %v, %v; %d nodes pinned, ahead %d", round, i+1, l, e, b.Manager().Live(), before)
				}
				continue
			}
			b.checkMeaning(i+1, l, envs)
			if source.Intn(4) > 0 {
				b.drop(l)
				if n := b.Manager().Live(); n != before {
					t.Fatalf("P15.2: round %d: Term(%d): %d nodes pinned, ahead %d", round, i+1, n, before)
				}
			} else {
				kept[i+1] = l
			}
		}
		// What was pinned at its time is there still.
		for id, l := range kept {
			b.checkMeaning(id, l, envs)
			b.drop(l)
		}
		b.checkNothingPinned()
	}
	if refused < 500 {
		t.Errorf("%d terms were refused only", refused)
	}
}

// P15.2: pinned once for each bit, in each call.
func TestPins(t *testing.T) {
	b := newBench(t)
	x, p := b.variable("x", 3), b.variable("p", 0)
	ids := []int{
		x, p, b.node(api.Node{Op: api.OpRepeat, A: x, P: 4}), b.node(api.Node{Op: api.OpSext, A: x, P: 5}), b.node(api.Node{Op: api.OpZext, A: x, P: 2}),
		b.two(api.OpConcat, x, b.two(api.OpBvAdd, x, b.number(3, 1))), b.two(api.OpBvMul, x, x), b.two(api.OpBvUdiv, b.number(3, 5), x),
		b.two(api.OpBvXor, x, x), b.number(3, 5), b.constant(bv.Bool(true)), b.node(api.Node{Op: api.OpIte, A: p, B: x, C: x}), b.two(api.OpBvSmod, x, b.number(3, 6)),
	}
	b.open(api.MaxNodes)
	m := b.Manager()
	pins := map[int]int{}
	for range 3 {
		for _, id := range ids {
			l := b.bits(id)
			for _, f := range l {
				pins[f]++
			}
			clear(l) // The answer is the caller's.
		}
	}
	for f, n := range pins {
		if f < 2 {
			continue
		}
		for range n {
			if e := m.Unpin(f); e != api.OK {
				t.Fatalf("P15.2: %d isn't pinned %d times: %v", f, n, e)
			}
		}
		if e := m.Unpin(f); e != api.ErrDdNode {
			t.Fatalf("P15.2: %d is pinned more than %d times", f, n)
		}
	}
	b.checkNothingPinned()
}

func TestNone(t *testing.T) {
	b := newBench(t)
	x, y := b.variable("x", 4), b.variable("y", 4)
	sum := b.two(api.OpBvAdd, x, x)
	// y stands in these, though they don't hang on it.
	with := []int{
		y, b.two(api.OpBvXor, y, y), b.two(api.OpBvAnd, x, b.two(api.OpBvMul, b.number(4, 0), y)), b.two(api.OpEq, y, y),
		b.node(api.Node{Op: api.OpIte, A: b.constant(bv.Bool(true)), B: x, C: y}), b.two(api.OpBvShl, y, b.number(4, 9)),
	}
	b.Builder = ddbits.New(b.terms, []int{x}, 100)
	for _, id := range append(with, 0, -1, b.terms.Len()+1, math.MinInt, math.MaxInt) {
		if l, e := b.Term(id); len(l) > 0 || e != api.ErrDdBitsNone {
			t.Errorf("P15.2: Term(%d): %v, %v", id, l, e)
		}
	}
	b.checkNothingPinned()
	b.drop(b.bits(sum))
	// It comes first, also where no node has room.
	b.Builder = ddbits.New(b.terms, []int{x}, 2)
	b.places = ddbits.Order(b.terms, []int{x})
	for range 2 {
		m := b.Manager()
		f, _ := m.Var(0)
		g, _ := m.Var(1)
		m.Pin(f)
		m.Pin(g)
		for _, id := range with {
			if l, e := b.Term(id); len(l) > 0 || e != api.ErrDdBitsNone {
				t.Errorf("P15.2: in a full manager: Term(%d): %v, %v", id, l, e)
			}
		}
		if l, e := b.Term(sum); len(l) > 0 || e != api.ErrDdNodes {
			t.Errorf("P15.2: in a full manager: %v, %v", l, e)
		}
	}
}

// Terms may be made behind New; variables made then have no places.
func TestTermsMadeLater(t *testing.T) {
	b := newBench(t)
	x := b.variable("x", 3)
	asked := []int{x, 2}
	b.Builder = ddbits.New(b.terms, asked, 100)
	b.places = ddbits.Order(b.terms, asked[:1])
	asked[0] = 0
	z := b.variable("z", 3)
	if z != 2 {
		t.Fatal("the bench: z has another number")
	}
	b.checkTerms([]int{x, b.two(api.OpBvMul, x, b.number(3, 3))}, assignments(api.Param{Name: "x", Sort: 3}))
	if l, e := b.Term(z); len(l) > 0 || e != api.ErrDdBitsNone || b.Place("z", 0) != -1 || len(b.Values(nil)) != 1 {
		t.Errorf("P15.2: %v, %v", l, e)
	}
}

// P15.4, of many terms of one sort: the diagrams are the same just where the values are, under all assignments.
func TestSame(t *testing.T) {
	source := rand.New(rand.NewSource(5))
	for round := range 4 {
		b := newBench(t)
		b.sown(source, 2, 200)
		b.open(api.MaxNodes)
		envs := assignments(api.Param{Name: "x", Sort: 2}, api.Param{Name: "y", Sort: 2}, api.Param{Name: "p"}, api.Param{Name: "z", Sort: 4})
		byValues, byBits := map[string]string{}, map[string]string{}
		for id := 1; id <= b.terms.Len(); id++ {
			n, _ := b.terms.Node(id)
			values := b.valuesOf(id, envs)
			bits := text(append(b.bits(id), n.Sort))
			if other, ok := byValues[values]; ok && other != bits {
				t.Fatalf("P15.4: round %d: term %d: %s; another one of the same values: %s", round, id, bits, other)
			}
			if other, ok := byBits[bits]; ok && other != values {
				t.Fatalf("P15.4: round %d: term %d has the diagrams of one of other values", round, id)
			}
			byValues[values], byBits[bits] = bits, values
		}
	}
}

// Two builders that are told the same answer the same, whatever a third one is told meanwhile.
func TestSameAgain(t *testing.T) {
	source := rand.New(rand.NewSource(6))
	b := newBench(t)
	b.sown(source, 4, 60)
	for _, most := range []int{api.MaxNodes, 200, 50} {
		first, second := ddbits.New(b.terms, b.terms.Vars(), most), ddbits.New(b.terms, b.terms.Vars(), most)
		other := ddbits.New(b.terms, b.terms.Vars(), 100)
		for _, i := range source.Perm(b.terms.Len()) {
			l, e := first.Term(i + 1)
			other.Term(1 + source.Intn(b.terms.Len()))
			k, d := second.Term(i + 1)
			if !slices.Equal(l, k) || e != d {
				t.Fatalf("Term(%d): %v, %v; the other one: %v, %v", i+1, l, e, k, d)
			}
			for j := range l {
				first.Manager().Unpin(l[j])
				second.Manager().Unpin(k[j])
			}
		}
	}
}

func TestExample(t *testing.T) {
	b := newBench(t)
	x, y := b.variable("x", 2), b.variable("y", 2)
	id := b.two(api.OpUlt, x, y)
	if got := ddbits.Order(b.terms, []int{x, y}); !slices.Equal(got, []api.Place{{Name: "x"}, {Name: "y"}, {Name: "x", Bit: 1}, {Name: "y", Bit: 1}}) {
		t.Errorf("P15.1: %v", got)
	}
	b.open(api.MaxNodes)
	l := b.bits(id)
	n, _ := b.Manager().Size(l[0])
	if c, _ := b.Manager().Count(l[0]); n != 5 || c != "6" {
		t.Errorf("P15.2: Size %d, Count %q", n, c)
	}
}
