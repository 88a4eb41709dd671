package lift_test

import (
	"math"
	"math/rand"
	"slices"
	"strconv"
	"testing"

	"plait/api"
	"plait/eval"
	"plait/lift"
	"plait/term"
)

func (b *bench) checkModel(known []api.Named) {
	b.Helper()
	got := lift.Model(b.terms, known)
	if want := b.wantedModel(known); !slices.Equal(got, want) {
		b.Errorf("P16.2: Model of %+v: %+v; wanted %+v", known, got, want)
	}
	if want := eval.Complete(b.terms, known); !slices.Equal(got, want) {
		b.Errorf("P16.2: Model of %+v: %+v; Complete tells %+v", known, got, want)
	}
}

func (b *bench) checkHolds(ids []int, env []api.Named, want bool) {
	b.Helper()
	if got := lift.Holds(b.terms, ids, env); got != want {
		b.Errorf("P16.2: Holds(%v, %+v): %v", ids, env, got)
	}
	if got := lift.Holds(b.terms, ids, lift.Model(b.terms, env)); got != want {
		b.Errorf("P16.3: Holds(%v, Model of %+v): %v; Holds of that itself is %v", ids, env, got, want)
	}
}

func TestModelByHand(t *testing.T) {
	b := newBench(t)
	b.checkModel(nil)
	b.checkModel([]api.Named{{Name: "x", V: parse(t, "#b1")}})
	b.variable("x", 4)
	b.constant("#b1111")
	b.variable("p", 0)
	b.variable("w", 128)
	nine, four := parse(t, "#b1001"), parse(t, "#b0100")
	b.checkModel(nil)
	b.checkModel([]api.Named{})
	for _, x := range []struct {
		known []api.Named
		x, p  api.Bits
	}{
		{nil, api.Bits{W: 4}, api.Bits{}},
		{[]api.Named{{Name: "p", V: api.Bits{Lo: 1}}, {Name: "x", V: nine}}, nine, api.Bits{Lo: 1}},
		{[]api.Named{{Name: "x", V: nine}, {Name: "x", V: four}}, nine, api.Bits{}},
		{[]api.Named{{Name: "x", V: api.Bits{W: 4, Lo: 16}}, {Name: "x", V: four}}, api.Bits{W: 4}, api.Bits{}},
		{[]api.Named{{Name: "x", V: api.Bits{Lo: 1}}, {Name: "p", V: parse(t, "#b1")}}, api.Bits{W: 4}, api.Bits{}},
		{[]api.Named{{Name: "X", V: nine}, {Name: "", V: nine}, {Name: "y", V: four}}, api.Bits{W: 4}, api.Bits{}},
	} {
		want := []api.Named{{Name: "x", V: x.x}, {Name: "p", V: x.p}, {Name: "w", V: api.Bits{W: 128}}}
		if got := lift.Model(b.terms, x.known); !slices.Equal(got, want) {
			t.Errorf("P16.2: Model of %+v: %+v; wanted %+v", x.known, got, want)
		}
		b.checkModel(x.known)
	}
}

func TestHoldsByHand(t *testing.T) {
	b := newBench(t)
	x, p, zero := b.variable("x", 4), b.variable("p", 0), b.constant("#b0000")
	isZero := b.op(api.OpEq, x, zero)
	notZero := b.op(api.OpNot, isZero)
	yes, no := b.constant("true"), b.constant("false")
	nine, truth := parse(t, "#b1001"), api.Bits{Lo: 1}
	for _, c := range []struct {
		ids  []int
		env  []api.Named
		want bool
	}{
		{nil, nil, true},
		{[]int{}, []api.Named{{Name: "x", V: nine}}, true},
		{[]int{yes}, nil, true},
		{[]int{no}, nil, false},
		{[]int{yes, yes, yes}, nil, true},
		{[]int{yes, no}, nil, false},
		{[]int{no, yes}, nil, false},
		{[]int{isZero}, nil, true},
		{[]int{notZero}, nil, false},
		{[]int{isZero, notZero}, nil, false},
		{[]int{notZero}, []api.Named{{Name: "x", V: nine}}, true},
		{[]int{isZero}, []api.Named{{Name: "x", V: nine}}, false},
		{[]int{p}, nil, false},
		{[]int{p}, []api.Named{{Name: "p", V: truth}}, true},
		{[]int{p, notZero, p}, []api.Named{{Name: "p", V: truth}, {Name: "x", V: nine}}, true},
		{[]int{p, notZero}, []api.Named{{Name: "p", V: truth}}, false},
		// Of a name the first value counts, and one that isn't right, or of another sort, is 0.
		{[]int{notZero}, []api.Named{{Name: "x", V: nine}, {Name: "x", V: api.Bits{W: 4}}}, true},
		{[]int{isZero}, []api.Named{{Name: "x", V: api.Bits{W: 4}}, {Name: "x", V: nine}}, true},
		{[]int{isZero}, []api.Named{{Name: "x", V: truth}, {Name: "x", V: nine}}, true},
		{[]int{isZero}, []api.Named{{Name: "x", V: api.Bits{W: 4, Lo: 16}}}, true},
		{[]int{isZero}, []api.Named{{Name: "x", V: api.Bits{W: 4, Lo: 1, Hi: 1}}}, true},
		{[]int{isZero}, []api.Named{{Name: "x", V: api.Bits{W: 5, Lo: 1}}}, true},
		{[]int{p}, []api.Named{{Name: "p", V: api.Bits{Lo: 3}}}, false},
		{[]int{p}, []api.Named{{Name: "p", V: parse(t, "#b1")}}, false},
		{[]int{isZero}, []api.Named{{Name: "y", V: nine}, {Name: "", V: nine}}, true},
	} {
		b.checkHolds(c.ids, c.env, c.want)
	}
}

func TestHoldsOfNoBoolAndNoNode(t *testing.T) {
	b := newBench(t)
	b.checkHolds([]int{1}, nil, false)
	yes, one, bit := b.constant("true"), b.constant("#b1"), b.variable("x", 1)
	wide := b.constant("#x00000000000000000000000000000001")
	env := []api.Named{{Name: "x", V: parse(t, "#b1")}}
	for _, id := range []int{one, bit, wide, 0, -1, math.MinInt, math.MaxInt, b.terms.Len() + 1, api.MaxTerms, api.MaxTerms + 1} {
		b.checkHolds([]int{id}, env, false)
		b.checkHolds([]int{yes, id}, env, false)
		b.checkHolds([]int{id, yes}, env, false)
		b.checkHolds([]int{yes, id, yes}, env, false)
	}
	// What was no node may come to be one.
	next := b.terms.Len() + 1
	b.checkHolds([]int{next}, env, false)
	b.op(api.OpEq, one, bit)
	b.checkHolds([]int{next}, env, true)
}

func TestMixedTerms(t *testing.T) {
	source := rand.New(rand.NewSource(162))
	told := map[bool]int{}
	for range 60 {
		b := newBench(t)
		b.fill(source, 150)
		for range 20 {
			env := mixedAssignment(source, source.Intn(12))
			b.checkModel(env)
			values := b.worth(env)
			for id := range b.terms.Len() + 2 {
				b.checkHolds([]int{id}, env, b.wantedHolds([]int{id}, values))
			}
			for range 10 {
				ids := b.someThatHold(source, values)
				if source.Intn(2) == 0 {
					ids = slices.Insert(ids, source.Intn(len(ids)+1), source.Intn(b.terms.Len()+2))
				}
				want := b.wantedHolds(ids, values)
				b.checkHolds(ids, env, want)
				told[want]++
			}
		}
	}
	if told[true] < 1000 || told[false] < 1000 {
		t.Errorf("P16.2: one-sided: %v", told)
	}
}

// someThatHold may have one more than once.
func (b *bench) someThatHold(source *rand.Rand, values []api.Bits) []int {
	var ids []int
	for id := range values {
		if source.Intn(3) == 0 && b.wantedHolds([]int{id}, values) {
			ids = append(ids, id)
		}
	}
	source.Shuffle(len(ids), func(i, j int) { ids[i], ids[j] = ids[j], ids[i] })
	return append(ids, ids[:min(len(ids), source.Intn(3))]...)
}

// TestHoldsInAFullGraph goes through a chain of all nodes that there can be, asked for all at once.
func TestHoldsInAFullGraph(t *testing.T) {
	b := newBench(t)
	last := b.variable("p", 0)
	ids := []int{last}
	for i := 1; b.terms.Len() < api.MaxTerms-1; i++ {
		last = b.op(api.OpOr, last, b.variable("q"+strconv.Itoa(i), 0))
		ids = append(ids, last)
	}
	ids = slices.Repeat(ids, 100)
	b.checkHolds(ids, nil, false)
	b.checkHolds(ids, []api.Named{{Name: "q1", V: api.Bits{Lo: 1}}}, false)
	b.checkHolds(ids, []api.Named{{Name: "p", V: api.Bits{Lo: 1}}}, true)
	if l := lift.Model(b.terms, []api.Named{{Name: "p", V: api.Bits{Lo: 1}}}); len(l) != api.MaxTerms/2 {
		t.Errorf("P16.2: %d variables", len(l))
	}
}

// TestGraphAndAssignmentAreLeftAlone: what is handed in is neither changed nor kept, and what is answered is new.
func TestGraphAndAssignmentAreLeftAlone(t *testing.T) {
	b := newBench(t)
	b.fill(rand.New(rand.NewSource(7)), 100)
	room := mixedAssignment(rand.New(rand.NewSource(8)), 40)
	ids := []int{1, 2, 3, 0, 1, 2}
	envBefore, idsBefore, nodesBefore := slices.Clone(room), slices.Clone(ids), nodesOf(b.terms)
	model := lift.Model(b.terms, room[:20])
	lift.Holds(b.terms, ids[:3], room[:20])
	if !slices.Equal(room, envBefore) || !slices.Equal(ids, idsBefore) || !slices.Equal(nodesOf(b.terms), nodesBefore) {
		t.Error("P16.2: what was handed in has changed")
	}
	kept := slices.Clone(model)
	for i := range room {
		room[i] = api.Named{Name: "v0", V: api.Bits{Lo: 1}}
	}
	if !slices.Equal(model, kept) {
		t.Error("P16.2: Model shares its answer with what was handed in")
	}
	for i := range model {
		model[i] = api.Named{}
	}
	if again := lift.Model(b.terms, envBefore[:20]); !slices.Equal(again, kept) {
		t.Errorf("P16.2: Model hangs on what was done to its answer: %+v, %+v", again, kept)
	}
}

func nodesOf(g *term.Graph) []api.Node {
	var nodes []api.Node
	for id := 1; id <= g.Len(); id++ {
		n, _ := g.Node(id)
		nodes = append(nodes, n)
	}
	return nodes
}
