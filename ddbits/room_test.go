package ddbits_test

import (
	"math/rand"
	"slices"
	"strconv"
	"testing"

	"plait/api"
	"plait/eval"
)

// Of each operator, with room for each number of nodes up to plenty, and with diagrams of the caller's pinned ahead: told just as ever, or refused; refused where the answer itself has no room, told where there is room for some times the answer and the operands.
func TestEachRoom(t *testing.T) {
	for w := 1; w <= 3; w++ {
		whole := newBench(t)
		x, y := whole.variable("x", w), whole.variable("y", w)
		ids := whole.applied(x, y, true)
		whole.open(api.MaxNodes)
		envs := assignments(api.Param{Name: "x", Sort: w}, api.Param{Name: "y", Sort: w})
		for _, id := range ids {
			n, _ := whole.terms.Node(id)
			answer := nodes(whole.Manager(), whole.bits(id)...)
			plenty := 2 * (answer + 2*w)
			if n.Op >= api.OpBvUdiv && n.Op <= api.OpBvSmod {
				plenty = 3 * (answer + 2*w)
			}
			for most := 2; most <= plenty+2; most++ {
				for _, pinned := range []int{0, 1, 2} {
					b := &bench{T: t, terms: whole.terms}
					e := b.open(most).checkRoom(id, pinned, envs)
					if e == api.OK && most < answer || e != api.OK && most-pinned >= max(plenty, 2) {
						t.Fatalf("P15.2: %+v, %d nodes, with room for %d, %d of them taken: %v", n, answer, most, pinned, e)
					}
				}
			}
		}
	}
}

// checkRoom asks for a term beside diagrams that are pinned, and holds what is told against the evaluator.
func (b *bench) checkRoom(id, pinned int, envs [][]api.Named) api.Errno {
	b.Helper()
	m := b.Manager()
	var mine []int
	for i := range pinned {
		v, _ := m.Var(i % len(b.places))
		m.Pin(v)
		mine = append(mine, v)
	}
	before := m.Live()
	l, e := b.Term(id)
	if e != api.OK {
		if e != api.ErrDdNodes || len(l) > 0 || m.Live() != before {
			b.Fatalf("P15.2: Term(%d): %v, %v; %d nodes pinned, ahead %d", id, l, e, m.Live(), before)
		}
	} else {
		b.checkMeaning(id, l, envs)
		if n := nodes(m, append(slices.Clone(l), mine...)...); m.Live() != n {
			b.Fatalf("P15.2: Term(%d): %d nodes pinned, the answer has %d", id, m.Live(), n)
		}
		b.drop(l)
	}
	for i, f := range mine {
		if v, no, yes, ok := m.Node(f); v != i%len(b.places) || no != 0 || yes != 1 || !ok {
			b.Fatalf("P15.2: Term(%d): what was pinned ahead is another diagram", id)
		}
	}
	b.drop(mine)
	b.checkNothingPinned()
	return e
}

// checkFits asks for a term of little room, which must do.
func (b *bench) checkFits(what string, id, most int, envs [][]api.Named) {
	b.Helper()
	b.open(most)
	l, e := b.Term(id)
	if e != api.OK {
		b.Errorf("P15.2: %s, with room for %d: %v", what, most, e)
	}
	b.checkMeaning(id, l, envs)
	b.drop(l)
	b.checkNothingPinned()
}

// Parts are let go as soon as nothing is made of them any more: long chains need no more room than a few of their parts.
func TestChains(t *testing.T) {
	source := rand.New(rand.NewSource(7))
	for _, c := range []struct {
		what  string
		links int
		most  int
		next  func(b *bench, x, last, i int) int
	}{
		{"sums", 1500, 100, func(b *bench, x, last, i int) int { return b.two(api.OpBvAdd, last, b.number(8, uint64(i))) }},
		{"sums, turned", 1500, 100, func(b *bench, x, last, i int) int { return b.two(api.OpBvAdd, b.number(8, uint64(i)), last) }},
		{"sums of words, turned", 250, 330, func(b *bench, x, last, i int) int {
			return b.two(api.OpBvAdd, b.two(api.OpBvMul, x, b.two(api.OpBvXor, x, b.number(8, uint64(i)))), last)
		}},
		{"differences", 1500, 100, func(b *bench, x, last, i int) int { return b.two(api.OpBvSub, b.number(8, uint64(i)), last) }},
		{"products", 800, 280, func(b *bench, x, last, i int) int {
			return b.two(api.OpBvMul, last, b.two(api.OpBvOr, x, b.number(8, uint64(2*i+1))))
		}},
		{"quotients", 800, 350, func(b *bench, x, last, i int) int {
			return b.two(api.OpBvXor, x, b.two(api.OpBvUdiv, last, b.number(8, uint64(i%9))))
		}},
		{"shifts", 800, 160, func(b *bench, x, last, i int) int {
			return b.two(api.OpBvXor, b.number(8, uint64(i)), b.two(api.OpBvAshr, x, b.two(api.OpBvAnd, last, b.number(8, 3))))
		}},
		{"choices", 800, 700, func(b *bench, x, last, i int) int {
			return b.node(api.Node{Op: api.OpIte, A: b.two(api.OpUlt, last, b.number(8, uint64(i%256))), B: b.two(api.OpBvAdd, last, x), C: b.number(8, uint64(i%7))})
		}},
		{"rotations", 2000, 12, func(b *bench, x, last, i int) int {
			return b.node(api.Node{Op: api.OpBvNot, A: b.node(api.Node{Op: api.OpRotl, A: last, P: 3})})
		}},
	} {
		b := newBench(t)
		x := b.variable("x", 8)
		id := x
		for i := range c.links {
			id = c.next(b, x, id, i)
		}
		b.checkFits(c.what, id, c.most, b.some(source, 50))
	}
}

// Bits of wide words are let go as soon as the comparison has seen them: the words themselves wouldn't have room.
func TestWideRelations(t *testing.T) {
	source := rand.New(rand.NewSource(8))
	for _, c := range []struct {
		what string
		most int
		make func(b *bench, x, y, z int) int
	}{
		{"x + y = z", 3600, func(b *bench, x, y, z int) int { return b.two(api.OpEq, b.two(api.OpBvAdd, x, y), z) }},
		{"x - y < z", 4600, func(b *bench, x, y, z int) int { return b.two(api.OpUlt, b.two(api.OpBvSub, x, y), z) }},
		{"z >= x + y", 4600, func(b *bench, x, y, z int) int { return b.two(api.OpSge, z, b.two(api.OpBvAdd, x, y)) }},
		{"-x is y + z", 6000, func(b *bench, x, y, z int) int {
			return b.two(api.OpComp, b.node(api.Node{Op: api.OpBvNeg, A: x}), b.two(api.OpBvAdd, y, z))
		}},
		{"10 x = y", 12000, func(b *bench, x, y, z int) int { return b.two(api.OpEq, b.two(api.OpBvMul, x, b.number(128, 10)), y) }},
		{"y = 10 x", 12000, func(b *bench, x, y, z int) int { return b.two(api.OpEq, y, b.two(api.OpBvMul, b.number(128, 10), x)) }},
		{"x + (y + z) = (x + y) + z", 9500, func(b *bench, x, y, z int) int {
			return b.two(api.OpEq, b.two(api.OpBvAdd, x, b.two(api.OpBvAdd, y, z)), b.two(api.OpBvAdd, b.two(api.OpBvAdd, x, y), z))
		}},
		{"x rest 10 = 3", 3000, func(b *bench, x, y, z int) int {
			return b.two(api.OpEq, b.two(api.OpBvUrem, x, b.number(128, 10)), b.number(128, 3))
		}},
	} {
		b := newBench(t)
		x, y, z := b.variable("x", 128), b.variable("y", 128), b.variable("z", 128)
		id := c.make(b, x, y, z)
		b.checkFits(c.what, id, c.most, append(b.some(source, 30), b.solutions()...))
	}
}

// solutions tells some assignments under which sums of x and y are z, or nearly so.
func (b *bench) solutions() [][]api.Named {
	var l [][]api.Named
	for _, c := range [][3]api.Bits{
		{value(128, 3, 0), value(128, 30, 0), value(128, 33, 0)},
		{value(128, 1<<63, 0), value(128, 1<<63, 0), value(128, 0, 1)},
		{value(128, 0, 1<<63), value(128, 0, 1<<63), value(128, 0, 0)},
		{value(128, 5, 1<<63), value(128, 6, 1<<63), value(128, 10, 0)},
		{value(128, 13, 0), value(128, 130, 0), value(128, 142, 0)},
	} {
		l = append(l, []api.Named{{Name: "x", V: c[0]}, {Name: "y", V: c[1]}, {Name: "z", V: c[2]}})
	}
	return l
}

// Bits that nothing is made of aren't made.
func TestUnneededBits(t *testing.T) {
	source := rand.New(rand.NewSource(9))
	low := func(b *bench, id int) int { return b.node(api.Node{Op: api.OpExtract, A: id, P: 3}) }
	high := func(b *bench, id int) int { return b.node(api.Node{Op: api.OpExtract, A: id, P: 127, Q: 124}) }
	for _, c := range []struct {
		what string
		most int
		make func(b *bench, x, y int) int
	}{
		{"lowest bits of a product", 80, func(b *bench, x, y int) int { return low(b, b.two(api.OpBvMul, x, y)) }},
		{"lowest bits of a sum", 50, func(b *bench, x, y int) int { return low(b, b.two(api.OpBvAdd, x, y)) }},
		{"lowest bits of a word moved up", 350, func(b *bench, x, y int) int { return low(b, b.two(api.OpBvShl, x, y)) }},
		{"highest bits of a word moved down", 800, func(b *bench, x, y int) int { return high(b, b.two(api.OpBvLshr, x, y)) }},
		{"lowest bits of a product of what is below a quotient", 80, func(b *bench, x, y int) int {
			word := b.node(api.Node{Op: api.OpExtract, A: b.two(api.OpConcat, b.two(api.OpBvUdiv, b.node(api.Node{Op: api.OpExtract, A: x, P: 123}), b.node(api.Node{Op: api.OpExtract, A: y, P: 123})), b.node(api.Node{Op: api.OpExtract, A: x, P: 3})), P: 127})
			return low(b, b.two(api.OpBvMul, word, y))
		}},
		{"highest bits of a sum", 2300, func(b *bench, x, y int) int { return high(b, b.two(api.OpBvAdd, x, y)) }},
		{"highest bits of a short product", 3000, func(b *bench, x, y int) int {
			low := func(id int) int { return b.node(api.Node{Op: api.OpExtract, A: id, P: 7}) }
			return b.node(api.Node{Op: api.OpExtract, A: b.two(api.OpBvMul, low(x), low(y)), P: 7, Q: 6})
		}},
		{"a product moved out", 2, func(b *bench, x, y int) int {
			return b.two(api.OpBvShl, b.two(api.OpBvMul, x, y), b.number(128, 128))
		}},
		{"a product moved out by a sum", 2, func(b *bench, x, y int) int {
			return b.two(api.OpBvLshr, b.two(api.OpBvMul, x, y), b.two(api.OpBvAdd, b.number(128, 64), b.number(128, 64)))
		}},
		{"a product whose comparison and quotient aren't needed", 80, func(b *bench, x, y int) int {
			short := func(id int) int { return b.node(api.Node{Op: api.OpExtract, A: id, P: 59}) }
			product := b.two(api.OpBvMul, short(x), short(y))
			return low(b, b.two(api.OpConcat, b.two(api.OpConcat, b.two(api.OpComp, product, short(x)), b.two(api.OpBvUrem, product, short(y))), product))
		}},
		{"a quotient rotated away", 6, func(b *bench, x, y int) int {
			word := b.two(api.OpConcat, b.two(api.OpBvSdiv, b.node(api.Node{Op: api.OpExtract, A: x, P: 123}), b.node(api.Node{Op: api.OpExtract, A: y, P: 123})), b.node(api.Node{Op: api.OpExtract, A: x, P: 3}))
			return high(b, b.node(api.Node{Op: api.OpRotr, A: word, P: 4}))
		}},
	} {
		b := newBench(t)
		x, y := b.variable("x", 128), b.variable("y", 128)
		id := c.make(b, x, y)
		b.checkFits(c.what, id, c.most, b.some(source, 30))
	}
}

// The needier operand is made first, wherever it stands: else all parts of a nested term would wait for the innermost one.
func TestNestedOnEitherSide(t *testing.T) {
	source := rand.New(rand.NewSource(10))
	for _, right := range []bool{false, true} {
		for _, op := range []int{api.OpAnd, api.OpBvMul, api.OpUlt} {
			b := newBench(t)
			x := b.variable("x", 8)
			square := b.two(api.OpBvMul, x, x)
			id := b.two(api.OpEq, x, b.number(8, 77))
			for i := range 200 {
				// 77 times 77 is 41: it makes all parts true.
				part := b.two(api.OpUle, b.two(api.OpBvXor, square, b.number(8, uint64(i))), b.number(8, uint64(min(41^i+i%50, 255))))
				if right {
					id, part = part, id
				}
				id = b.joined(op, id, part)
			}
			b.checkFits("nested "+strconv.Itoa(op), id, 160, b.some(source, 50))
		}
	}
}

// Sums of wide words have no room; so these relations are made bit by bit, and the needier operand must come first there, too.
func TestNestedWideRelations(t *testing.T) {
	source := rand.New(rand.NewSource(15))
	for _, right := range []bool{false, true} {
		b := newBench(t)
		x, y := b.variable("x", 128), b.variable("y", 128)
		solution := b.some(source, 1)
		id := b.two(api.OpEq, x, x)
		for range 20 {
			sum := b.two(api.OpBvAdd, x, b.two(api.OpBvXor, y, b.constant(value(128, source.Uint64(), source.Uint64()))))
			v, _ := eval.Eval(b.terms, sum, solution[0])
			part := b.two(api.OpEq, sum, b.constant(v))
			if right {
				id, part = part, id
			}
			id = b.two(api.OpAnd, id, part)
		}
		b.checkFits("nested relations", id, 4000, append(solution, b.some(source, 10)...))
	}
}

// joined makes a Bool of two, by an operator of Bools or of words.
func (b *bench) joined(op, p, q int) int {
	b.Helper()
	if op == api.OpAnd {
		return b.two(op, p, q)
	}
	one, zero := b.number(2, 1), b.number(2, 2)
	word := func(id int) int { return b.node(api.Node{Op: api.OpIte, A: id, B: one, C: zero}) }
	id := b.two(op, word(p), word(q))
	if op == api.OpUlt {
		return id
	}
	return b.two(api.OpEq, id, one)
}

// What is too great for any room is refused, and what has room is told behind it.
func TestMaxNodes(t *testing.T) {
	source := rand.New(rand.NewSource(11))
	b := newBench(t)
	x, y := b.variable("x", 128), b.variable("y", 128)
	var costly []int
	for op := api.OpBvAdd; op <= api.OpBvSmod; op++ {
		costly = append(costly, b.two(op, x, y))
	}
	less := b.two(api.OpSlt, x, y)
	b.open(api.MaxNodes)
	kept := b.bits(less)
	before := b.Manager().Live()
	for _, id := range costly {
		for range 2 {
			if l, e := b.Term(id); len(l) > 0 || e != api.ErrDdNodes || b.Manager().Live() != before {
				t.Fatalf("P15.2: Term(%d): %d bits, %v; %d nodes pinned, ahead %d", id, len(l), e, b.Manager().Live(), before)
			}
		}
		b.checkMeaning(less, kept, b.some(source, 10))
		again := b.bits(less)
		if !slices.Equal(again, kept) {
			t.Fatalf("P15.4: %v, then %v", kept, again)
		}
		b.drop(again)
	}
}

// Diagrams that the caller made and didn't pin give way.
func TestGarbageGivesWay(t *testing.T) {
	source := rand.New(rand.NewSource(12))
	b := newBench(t)
	x, y := b.variable("x", 6), b.variable("y", 6)
	ids := []int{b.two(api.OpBvAdd, x, y), b.two(api.OpUlt, x, y), b.two(api.OpBvShl, x, b.number(6, 2))}
	b.open(110)
	m := b.Manager()
	for range 50 {
		last := 1
		for range 100 {
			v, _ := m.Var(source.Intn(12))
			if f, e := m.Xor(v, last); e == api.OK {
				last = f
			}
		}
		b.checkTerms(ids, b.some(source, 5))
	}
}

// As many terms as there may be, one in another, of the greatest width.
func TestMaxTerms(t *testing.T) {
	source := rand.New(rand.NewSource(13))
	b := newBench(t)
	x, p := b.variable("x", 128), b.variable("p", 0)
	id := x
	for b.terms.Len() < api.MaxTerms-2 {
		id = b.node(api.Node{Op: api.OpBvNot, A: b.node(api.Node{Op: api.OpRotl, A: id, P: 1})})
	}
	id = b.node(api.Node{Op: api.OpIte, A: p, B: x, C: id})
	b.open(2000)
	b.checkTerms([]int{id}, b.some(source, 10))
}

// Of as many variables as there may be, all bits of all.
func TestMaxPlaces(t *testing.T) {
	source := rand.New(rand.NewSource(14))
	b := newBench(t)
	b.wide(32, 128)
	id := 1
	for i := range 31 {
		id = b.two(api.OpBvXor, id, i+2)
	}
	b.open(api.MaxNodes)
	b.checkTerms([]int{id, 32}, b.some(source, 10))
}
