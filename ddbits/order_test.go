package ddbits_test

import (
	"math"
	"slices"
	"strconv"
	"testing"

	"plait/api"
	"plait/bv"
	"plait/dd"
	"plait/ddbits"
)

// naive tells the places of P15.1, of variables that are all right.
func naive(params []api.Param) []api.Place {
	var l []api.Place
	for bit := range api.MaxWidth {
		for _, p := range params {
			if bit < width(p.Sort) {
				l = append(l, api.Place{Name: p.Name, Bit: bit})
			}
		}
	}
	return l[:min(len(l), 4096)]
}

func TestOrder(t *testing.T) {
	b := newBench(t)
	x := b.variable("x", 3)
	p := b.variable("p", 0)
	y := b.variable("y", 5)
	one := b.variable("one", 1)
	less := b.two(api.OpUlt, x, x)
	five := b.number(5, 5)
	b.variable("unasked", 7)
	names := map[int]api.Param{x: {Name: "x", Sort: 3}, p: {Name: "p"}, y: {Name: "y", Sort: 5}, one: {Name: "one", Sort: 1}}
	for _, c := range []struct{ asked, counted []int }{
		{nil, nil},
		{[]int{}, nil},
		{[]int{0, -1, 99, math.MinInt, math.MaxInt, less, five}, nil},
		{[]int{p}, []int{p}},
		{[]int{x}, []int{x}},
		{[]int{x, y}, []int{x, y}},
		{[]int{y, x}, []int{y, x}},
		{[]int{one, y, p, x}, []int{one, y, p, x}},
		{[]int{x, less, p, x, 0, p, y, five, x, y}, []int{x, p, y}},
	} {
		var params []api.Param
		for _, id := range c.counted {
			params = append(params, names[id])
		}
		asked := slices.Clone(c.asked)
		if got := ddbits.Order(b.terms, asked); !slices.Equal(got, naive(params)) {
			t.Errorf("P15.1: Order of %v: %v; should be %v", c.asked, got, naive(params))
		}
		if !slices.Equal(asked, c.asked) {
			t.Errorf("%v was changed to %v", c.asked, asked)
		}
	}
}

// wide makes n variables of a sort.
func (b *bench) wide(n, sort int) []api.Param {
	var l []api.Param
	for i := range n {
		p := api.Param{Name: "v" + strconv.Itoa(i), Sort: sort}
		b.variable(p.Name, p.Sort)
		l = append(l, p)
	}
	return l
}

func TestOrderOfTooMany(t *testing.T) {
	for _, c := range []struct{ words, sort, bools, places int }{
		{31, 128, 127, 4095}, {32, 128, 0, 4096}, {32, 128, 1, 4096}, {33, 128, 0, 4096}, {0, 0, 4095, 4095}, {40, 100, 96, 4096}, {100, 128, 100, 4096},
	} {
		b := newBench(t)
		params := append(b.wide(c.words, c.sort), api.Param{Name: "last", Sort: 9})
		for i := range c.bools {
			params = append(params, api.Param{Name: "b" + strconv.Itoa(i)})
		}
		params = slices.Delete(params, c.words, c.words+1)
		for _, p := range params[c.words:] {
			b.variable(p.Name, p.Sort)
		}
		b.open(api.MaxNodes)
		want := naive(params)
		if len(b.places) != c.places || !slices.Equal(b.places, want) {
			t.Fatalf("P15.1: %+v: %d places, should be %d", c, len(b.places), c.places)
		}
		b.checkPlaces(params)
		b.checkManager(c.places)
		b.checkCut(params)
	}
}

// checkPlaces holds Place against Order.
func (b *bench) checkPlaces(params []api.Param) {
	b.Helper()
	known := map[api.Place]int{}
	for i, p := range b.places {
		known[p] = i
	}
	for _, p := range append(params, api.Param{Name: ""}, api.Param{Name: "nobody"}) {
		for _, i := range []int{math.MinInt, -1, 0, 1, width(p.Sort) - 2, width(p.Sort) - 1, width(p.Sort), 64, 128, math.MaxInt} {
			want, ok := known[api.Place{Name: p.Name, Bit: i}]
			if !ok {
				want = -1
			}
			if got := b.Place(p.Name, i); got != want {
				b.Fatalf("P15.2: Place(%q, %d): %d; should be %d", p.Name, i, got, want)
			}
		}
	}
}

// checkManager: as many variables as there are places.
func (b *bench) checkManager(n int) {
	b.Helper()
	m := b.Manager()
	if b.Manager() != m {
		b.Fatal("P15.2: another manager")
	}
	for _, k := range []int{n - 1, n, n + 1} {
		want := api.ErrDdVar
		if k == n {
			want = api.OK
		}
		if _, e := m.Eval(1, make([]bool, max(k, 0))); k >= 0 && e != want {
			b.Errorf("P15.2: %d places; Eval with %d values: %v", n, k, e)
		}
	}
	if _, e := m.Var(n); e != api.ErrDdVar {
		b.Errorf("P15.2: Var(%d): %v", n, e)
	}
}

// checkCut: a term is told just if all bits of its variables have places.
func (b *bench) checkCut(params []api.Param) {
	b.Helper()
	for _, p := range params {
		id, _ := b.terms.Var(p.Name)
		l, e := b.Term(id)
		if b.Place(p.Name, width(p.Sort)-1) < 0 {
			if len(l) > 0 || e != api.ErrDdBitsNone {
				b.Fatalf("P15.2: Term of %q, a bit of which has no place: %v, %v", p.Name, l, e)
			}
			continue
		}
		if e != api.OK {
			b.Fatalf("P15.2: Term of %q: %v", p.Name, e)
		}
		for i, f := range l {
			if v, no, yes, ok := b.Manager().Node(f); v != b.Place(p.Name, i) || no != 0 || yes != 1 || !ok {
				b.Fatalf("P15.2: bit %d of %q: a diagram of variable %d", i, p.Name, v)
			}
		}
		b.drop(l)
	}
	b.checkNothingPinned()
}

func TestPlaces(t *testing.T) {
	b := newBench(t)
	params := []api.Param{{Name: "x", Sort: 3}, {Name: "p"}, {Name: "a b", Sort: 128}, {Name: "one", Sort: 1}}
	for _, p := range params {
		b.variable(p.Name, p.Sort)
	}
	b.open(api.MaxNodes)
	b.checkPlaces(params)
	b.checkManager(133)
	b.checkCut(params)
	newBench(t).open(100).checkManager(0)
}

// New's most is the manager's.
func TestMost(t *testing.T) {
	for _, c := range []struct{ told, counts int }{{math.MinInt, 2}, {-1, 2}, {0, 2}, {1, 2}, {2, 2}, {3, 3}, {50, 50}} {
		b := newBench(t)
		b.wide(60, 0)
		b.open(c.told)
		for i := range 60 {
			l, e := b.Term(i + 1)
			if want := i < c.counts; (e == api.OK) != want || !want && (e != api.ErrDdNodes || len(l) > 0) {
				t.Fatalf("P15.2: most %d, with %d nodes pinned: %v, %v", c.told, i, l, e)
			}
		}
		if n := b.Manager().Live(); n != c.counts {
			t.Errorf("P15.2: most %d: %d nodes are pinned", c.told, n)
		}
	}
	// MaxNodes is the most that there are.
	for _, most := range []int{api.MaxNodes, api.MaxNodes + 1, math.MaxInt} {
		b := newBench(t)
		b.wide(64, 64)
		b.open(most)
		n := b.fill()
		if n != api.MaxNodes {
			t.Errorf("P15.2: most %d: %d nodes", most, n)
		}
	}
}

// fill pins unlike functions, each made of two of the variables behind its own, until none has room, and tells how many nodes there are.
func (b *bench) fill() int {
	m := b.Manager()
	last, _ := m.Var(4095)
	m.Pin(last)
	layer := []int{0, 1, last}
	for i := 4094; ; i-- {
		v, e := m.Var(i)
		if e != api.OK {
			return m.Live()
		}
		m.Pin(v)
		next := []int{v}
		for _, f := range layer {
			for _, g := range layer {
				h, e := m.Ite(v, f, g)
				if e != api.OK {
					return m.Live()
				}
				m.Pin(h)
				next = append(next, h)
			}
		}
		layer = next[:min(len(next), 12)]
	}
}

func TestValues(t *testing.T) {
	b := newBench(t)
	x, p := b.variable("x", 2), b.variable("p", 0)
	y, wide := b.variable("y", 3), b.variable("wide", 128)
	unasked := b.variable("unasked", 4)
	b.Builder = ddbits.New(b.terms, []int{y, 99, p, x, y, wide, b.two(api.OpEq, x, x)}, 100)
	// y 0: 1, p: 2, x 0: 3, wide 0: 4, y 1: 5, x 1: 6, wide 1: 7, y 2: 8, wide 2 .. 127: 9 .. 134
	told := func(y uint64, p bool, x uint64, lo, hi uint64) []api.Named {
		return []api.Named{{Name: "y", V: value(3, y, 0)}, {Name: "p", V: bv.Bool(p)}, {Name: "x", V: value(2, x, 0)}, {Name: "wide", V: value(128, lo, hi)}}
	}
	for _, c := range []struct {
		lits []int
		want []api.Named
	}{
		{nil, told(0, false, 0, 0, 0)},
		{[]int{1}, told(1, false, 0, 0, 0)},
		{[]int{-1, 2, 3, -4, 5}, told(2, true, 1, 0, 0)},
		{[]int{-1, -2, -3, -4, -5, -6, -7, -8}, told(0, false, 0, 0, 0)},
		{[]int{6, 8, 70, 71, 134}, told(4, false, 2, 1<<63, 1<<63|1)},
		{[]int{134, 2}, told(0, true, 0, 0, 1<<63)},
		// Of what is named twice the first one counts.
		{[]int{1, -1, -3, 3, 8, 8}, told(5, false, 0, 0, 0)},
		// What is no literal of a place is passed over.
		{[]int{0, 135, -135, 3, math.MaxInt, math.MinInt, math.MinInt + 1, 4096, 4097}, told(0, false, 1, 0, 0)},
	} {
		asked := slices.Clone(c.lits)
		if got := b.Values(asked); !slices.Equal(got, c.want) {
			t.Errorf("P15.3: Values(%v): %v; should be %v", c.lits, got, c.want)
		}
		if !slices.Equal(asked, c.lits) {
			t.Errorf("%v was changed to %v", c.lits, asked)
		}
	}
	if n, _ := b.terms.Node(unasked); b.Place(n.Name, 0) != -1 {
		t.Error("P15.2: a place of a variable that wasn't asked for")
	}
	if got := newBench(t).open(100).Values([]int{1, -1}); len(got) != 0 {
		t.Errorf("P15.3: without variables: %v", got)
	}
}

// Values of a way that Some told make the term true, whichever the bits are that it doesn't name; here all of them are 0.
func TestValuesOfSome(t *testing.T) {
	b := newBench(t)
	x, y := b.variable("x", 4), b.variable("y", 4)
	var ids []int
	for i := range 16 {
		for op := api.OpUlt; op <= api.OpSge; op++ {
			ids = append(ids, b.two(op, b.two(api.OpBvMul, x, y), b.two(api.OpBvXor, x, b.number(4, uint64(i)))))
		}
	}
	b.open(api.MaxNodes)
	for _, id := range ids {
		l := b.bits(id)
		way, ok, e := b.Manager().Some(l[0])
		if !ok || e != api.OK {
			t.Fatalf("Some: %v, %v, %v", way, ok, e)
		}
		env := b.Values(way)
		if len(env) != 2 || env[0].Name != "x" || env[1].Name != "y" {
			t.Fatalf("P15.3: %v", env)
		}
		b.checkMeaning(id, l, [][]api.Named{env})
		if in := b.input(env); !evalIs(b.Manager(), l[0], in) {
			t.Fatalf("P15.3: %v makes it false", env)
		}
		b.drop(l)
	}
}

func evalIs(m *dd.Manager, f int, in []bool) bool {
	v, e := m.Eval(f, in)
	return v && e == api.OK
}

// A variable that has no place for some bits has a value all the same.
func TestValuesOfCutVariables(t *testing.T) {
	b := newBench(t)
	b.wide(33, 128)
	b.open(100)
	var all []int
	for i := range 4096 {
		all = append(all, i+1)
	}
	got := b.Values(all)
	if len(got) != 33 {
		t.Fatalf("P15.3: %d values", len(got))
	}
	for i, x := range got {
		// 124 bits of each of 33 make 4092 places; the first 4 have one more.
		want := value(128, math.MaxUint64, 1<<60-1)
		if i < 4 {
			want = value(128, math.MaxUint64, 1<<61-1)
		}
		if x.Name != "v"+strconv.Itoa(i) || x.V != want {
			t.Errorf("P15.3: %v; should be %v", x, want)
		}
	}
}
