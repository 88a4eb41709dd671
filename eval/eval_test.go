package eval_test

import (
	"math"
	"math/rand"
	"slices"
	"strconv"
	"testing"

	"plait/api"
	"plait/bv"
	"plait/eval"
	"plait/term"
)

func mustMake(t *testing.T, g *term.Graph, n api.Node) int {
	t.Helper()
	id, e := g.Make(n)
	if e != api.OK {
		t.Fatalf("Make(%+v): %v", n, e)
	}
	return id
}

func variable(t *testing.T, g *term.Graph, name string, sort int) int {
	t.Helper()
	return mustMake(t, g, api.Node{Op: api.OpVar, Sort: sort, Name: name})
}

func constant(t *testing.T, g *term.Graph, v api.Bits) int {
	t.Helper()
	return mustMake(t, g, api.Node{Op: api.OpConst, Sort: v.W, V: v})
}

// The reference of these tests: what each node is worth, asked of its operands afresh; a node without a value has none in the list.

type reference struct {
	refs   map[int]applied
	values map[int]api.Bits
}

func firstOf(env []api.Named, name string) (api.Bits, bool) {
	i := slices.IndexFunc(env, func(x api.Named) bool { return x.Name == name })
	if i < 0 {
		return api.Bits{}, false
	}
	return env[i].V, true
}

func evalReference(refs map[int]applied, g *term.Graph, env []api.Named) reference {
	r := reference{refs, map[int]api.Bits{}}
	for id := 1; id <= g.Len(); id++ {
		n, _ := g.Node(id)
		switch n.Op {
		case api.OpConst:
			r.values[id] = n.V
		case api.OpVar:
			if v, ok := firstOf(env, n.Name); ok && bv.Right(v) && v.W == n.Sort {
				r.values[id] = v
			}
		default:
			r.note(id, n)
		}
	}
	return r
}

func (r reference) note(id int, n api.Node) {
	var l []api.Bits
	for _, operand := range []int{n.A, n.B, n.C} {
		if operand == 0 {
			continue
		}
		v, ok := r.values[operand]
		if !ok {
			return
		}
		l = append(l, v)
	}
	r.values[id] = r.refs[n.Op](n.P, n.Q, l)
}

func (r reference) eval(g *term.Graph, id int) (api.Bits, api.Errno) {
	if id < 1 || id > g.Len() {
		return api.Bits{}, api.ErrEvalNone
	}
	v, ok := r.values[id]
	if !ok {
		return api.Bits{}, api.ErrEvalValue
	}
	return v, api.OK
}

// someGraph has variables and constants of several sorts and, above them, nodes of all operators by chance.
func someGraph(t *testing.T, source *rand.Rand, most int) *term.Graph {
	t.Helper()
	g := term.New(most)
	for _, sort := range []int{0, 1, 4, 8, 64, 65, 128} {
		for k := range 2 {
			variable(t, g, "v"+strconv.Itoa(sort)+string(rune('a'+k)), sort)
		}
		constant(t, g, randomValue(source, sort))
	}
	for tries := 0; g.Len() < most && tries < 200*most; tries++ {
		op := api.OpNot + source.Intn(api.OpRepeat-api.OpNot+1)
		n := api.Node{Op: op}
		places := []*int{&n.A, &n.B, &n.C}
		for _, p := range places[:term.Arity(op)] {
			*p = 1 + source.Intn(g.Len())
		}
		if op >= api.OpExtract {
			n.P, n.Q = source.Intn(9), 0
		}
		if op == api.OpExtract {
			n.Q = source.Intn(4)
		}
		g.Make(n)
	}
	return g
}

func randomValue(source *rand.Rand, sort int) api.Bits {
	if sort == 0 {
		return truth(source.Intn(2) == 1)
	}
	v, _ := bv.New(sort, source.Uint64()>>source.Intn(64), source.Uint64())
	return v
}

// someAssignment has a value for each variable, in any order; with faults some of them are left out, wrong, or doubled.
func someAssignment(source *rand.Rand, g *term.Graph, faults bool) []api.Named {
	env := []api.Named{{Name: "none", V: yes}, {Name: "", V: api.Bits{W: 4}}}
	for _, id := range g.Vars() {
		n, _ := g.Node(id)
		x := api.Named{Name: n.Name, V: randomValue(source, n.Sort)}
		if faults && source.Intn(8) == 0 {
			switch source.Intn(3) {
			case 0:
				continue
			case 1:
				x.V = wrongValues()[source.Intn(len(wrongValues()))]
			case 2:
				x.V = api.Bits{W: (n.Sort + 1) % 129}
			}
		}
		env = append(env, x)
	}
	source.Shuffle(len(env), func(i, j int) { env[i], env[j] = env[j], env[i] })
	for range 4 { // behind the first one no other of its name counts
		x := env[source.Intn(len(env))]
		env = append(env, api.Named{Name: x.Name, V: randomValue(source, max(x.V.W, 0)%129)})
	}
	return env
}

func TestEvalExamples(t *testing.T) {
	g := term.New(10)
	x := variable(t, g, "x", 4)
	sum := mustMake(t, g, api.Node{Op: api.OpBvAdd, A: x, B: x})
	less := mustMake(t, g, api.Node{Op: api.OpUlt, A: x, B: sum})
	five := constant(t, g, api.Bits{W: 4, Lo: 5})
	nine := []api.Named{{Name: "x", V: api.Bits{W: 4, Lo: 9}}}
	for _, y := range []struct {
		id   int
		env  []api.Named
		want api.Bits
		e    api.Errno
	}{
		{x, nine, api.Bits{W: 4, Lo: 9}, api.OK},
		{sum, nine, api.Bits{W: 4, Lo: 2}, api.OK},
		{less, nine, no, api.OK},
		{less, []api.Named{{Name: "x", V: api.Bits{W: 4, Lo: 3}}}, yes, api.OK},
		{five, nil, api.Bits{W: 4, Lo: 5}, api.OK},
		{sum, nil, api.Bits{}, api.ErrEvalValue},
		{sum, []api.Named{{Name: "X", V: api.Bits{W: 4}}, {Name: "x ", V: api.Bits{W: 4}}}, api.Bits{}, api.ErrEvalValue},
		{sum, []api.Named{{Name: "x", V: yes}}, api.Bits{}, api.ErrEvalValue},
		{sum, []api.Named{{Name: "x", V: api.Bits{W: 5}}}, api.Bits{}, api.ErrEvalValue},
		{sum, []api.Named{{Name: "x", V: api.Bits{W: 4, Lo: 16}}}, api.Bits{}, api.ErrEvalValue},
		{sum, []api.Named{{Name: "x", V: api.Bits{W: 4, Hi: 1}}}, api.Bits{}, api.ErrEvalValue},
		{x, nil, api.Bits{}, api.ErrEvalValue},
		{0, nine, api.Bits{}, api.ErrEvalNone},
		{-1, nine, api.Bits{}, api.ErrEvalNone},
		{5, nine, api.Bits{}, api.ErrEvalNone},
		{math.MaxInt, nil, api.Bits{}, api.ErrEvalNone},
		{math.MinInt, nil, api.Bits{}, api.ErrEvalNone},
	} {
		if got, e := eval.Eval(g, y.id, y.env); got != y.want || e != y.e {
			t.Errorf("P4.2: Eval(%d) with %+v: %+v, %v; wanted %+v, %v", y.id, y.env, got, e, y.want, y.e)
		}
	}
}

func TestEvalBoolVariable(t *testing.T) {
	g := term.New(10)
	p := variable(t, g, "p", 0)
	for _, y := range []struct {
		env  []api.Named
		want api.Bits
		e    api.Errno
	}{
		{[]api.Named{{Name: "p", V: yes}}, yes, api.OK},
		{[]api.Named{{Name: "p"}}, no, api.OK},
		{nil, no, api.ErrEvalValue}, // no value isn't false
		{[]api.Named{{Name: "p", V: api.Bits{Lo: 2}}}, no, api.ErrEvalValue},
		{[]api.Named{{Name: "p", V: api.Bits{Lo: 1, Hi: 1}}}, no, api.ErrEvalValue},
		{[]api.Named{{Name: "p", V: api.Bits{W: 1, Lo: 1}}}, no, api.ErrEvalValue},
	} {
		if got, e := eval.Eval(g, p, y.env); got != y.want || e != y.e {
			t.Errorf("P4.2: p with %+v: %+v, %v; wanted %+v, %v", y.env, got, e, y.want, y.e)
		}
	}
}

func TestEvalFirstValueCounts(t *testing.T) {
	g := term.New(10)
	x := variable(t, g, "x", 4)
	right, other := api.Bits{W: 4, Lo: 9}, api.Bits{W: 4, Lo: 3}
	if got, e := eval.Eval(g, x, []api.Named{{Name: "x", V: right}, {Name: "x", V: other}, {Name: "x", V: yes}}); e != api.OK || got != right {
		t.Errorf("P4.2: x more than once: %+v, %v", got, e)
	}
	if got := eval.Complete(g, []api.Named{{Name: "x", V: right}, {Name: "x", V: other}, {Name: "x", V: yes}}); !slices.Equal(got, []api.Named{{Name: "x", V: right}}) {
		t.Errorf("P4.3: x more than once: %+v", got)
	}
	for _, wrong := range []api.Bits{{}, yes, {W: 5, Lo: 9}, {W: 4, Lo: 16}, {W: 4, Hi: 1}, {W: -4}, {W: 129}} {
		env := []api.Named{{Name: "x", V: wrong}, {Name: "x", V: right}}
		if got, e := eval.Eval(g, x, env); e != api.ErrEvalValue || got != (api.Bits{}) {
			t.Errorf("P4.2: x first %+v: %+v, %v", wrong, got, e)
		}
		if got := eval.Complete(g, env); !slices.Equal(got, []api.Named{{Name: "x", V: api.Bits{W: 4}}}) {
			t.Errorf("P4.3: x first %+v: %+v", wrong, got)
		}
	}
}

func TestEvalAsksForAllVariables(t *testing.T) {
	g := term.New(20)
	x, y, p := variable(t, g, "x", 4), variable(t, g, "y", 4), variable(t, g, "p", 0)
	never := constant(t, g, no)
	zero := constant(t, g, api.Bits{W: 4})
	env := []api.Named{{Name: "x", V: api.Bits{W: 4, Lo: 1}}}
	for _, n := range []api.Node{
		{Op: api.OpIte, A: never, B: y, C: x},
		{Op: api.OpAnd, A: never, B: p},
		{Op: api.OpImplies, A: never, B: p},
		{Op: api.OpBvMul, A: zero, B: y},
		{Op: api.OpEq, A: y, B: y},
	} {
		if got, e := eval.Eval(g, mustMake(t, g, n), env); e != api.ErrEvalValue || got != (api.Bits{}) {
			t.Errorf("P4.2: %+v without a value that nothing hangs on: %+v, %v", n, got, e)
		}
	}
}

func TestEvalGraphs(t *testing.T) {
	refs := references()
	for seed := range int64(40) {
		source := rand.New(rand.NewSource(seed))
		g := someGraph(t, source, 150)
		for _, faults := range []bool{false, true, true} {
			env := someAssignment(source, g, faults)
			r := evalReference(refs, g, env)
			for id := -1; id <= g.Len()+2; id++ {
				got, e := eval.Eval(g, id, env)
				if want, we := r.eval(g, id); got != want || e != we {
					t.Fatalf("P4.2: seed %d: Eval(%d): %+v, %v; wanted %+v, %v", seed, id, got, e, want, we)
				}
			}
		}
	}
}

func TestAllGraphs(t *testing.T) {
	refs := references()
	for seed := range int64(60) {
		source := rand.New(rand.NewSource(seed))
		g := someGraph(t, source, 80)
		env := someAssignment(source, g, seed%2 == 1)
		r := evalReference(refs, g, env)
		for range 40 {
			ids := make([]int, source.Intn(12))
			for i := range ids {
				ids[i] = 1 + source.Intn(g.Len())
			}
			if len(ids) > 0 && source.Intn(4) == 0 {
				ids[source.Intn(len(ids))] = []int{0, -1, g.Len() + 1, math.MaxInt}[source.Intn(4)]
			}
			checkAll(t, g, r, ids, env)
		}
	}
}

func checkAll(t *testing.T, g *term.Graph, r reference, ids []int, env []api.Named) {
	t.Helper()
	var want []api.Bits
	we := api.OK
	for _, id := range ids {
		v, e := r.eval(g, id)
		if e != api.OK {
			want, we = nil, e
			break
		}
		want = append(want, v)
	}
	got, e := eval.All(g, ids, env)
	if e != we || !slices.Equal(got, want) {
		t.Fatalf("P4.2: All(%v): %+v, %v; wanted %+v, %v", ids, got, e, want, we)
	}
}

func TestAllFirstError(t *testing.T) {
	g := term.New(10)
	x, y := variable(t, g, "x", 4), variable(t, g, "y", 4)
	env := []api.Named{{Name: "x", V: api.Bits{W: 4, Lo: 9}}}
	for _, z := range []struct {
		ids  []int
		want api.Errno
	}{
		{[]int{x, y, 99}, api.ErrEvalValue},
		{[]int{x, 99, y}, api.ErrEvalNone},
		{[]int{0, y}, api.ErrEvalNone},
		{[]int{y, 0}, api.ErrEvalValue},
		{[]int{x, x, x, y}, api.ErrEvalValue},
	} {
		if got, e := eval.All(g, z.ids, env); e != z.want || len(got) != 0 {
			t.Errorf("P4.2: All(%v): %+v, %v; wanted nothing and %v", z.ids, got, e, z.want)
		}
	}
	for _, ids := range [][]int{nil, {}} {
		if got, e := eval.All(g, ids, nil); e != api.OK || len(got) != 0 {
			t.Errorf("P4.2: All of nothing: %+v, %v", got, e)
		}
	}
}

// A full graph, as deep as can be, where each node hangs twice on the one ahead of it: gone through node by node it is little work, path by path it would never end.
func TestEvalDeepGraph(t *testing.T) {
	g := term.New(api.MaxTerms)
	id := variable(t, g, "x", 128)
	for g.Len() < api.MaxTerms {
		op := api.OpBvAdd
		if g.Len()%100 == 0 {
			op = api.OpBvMul
		}
		id = mustMake(t, g, api.Node{Op: op, A: id, B: id})
	}
	env := []api.Named{{Name: "x", V: api.Bits{W: 128, Lo: 3}}}
	r := evalReference(references(), g, env)
	want, _ := r.eval(g, id)
	if got, e := eval.Eval(g, id, env); e != api.OK || got != want {
		t.Errorf("P4.2: Eval of the deepest node: %+v, %v; wanted %+v", got, e, want)
	}
	ids := make([]int, 1<<16)
	for i := range ids {
		ids[i] = api.MaxTerms - i%api.MaxTerms
	}
	checkAll(t, g, r, ids, env)
}

func TestComplete(t *testing.T) {
	g := term.New(20)
	if got := eval.Complete(g, []api.Named{{Name: "x", V: yes}}); len(got) != 0 {
		t.Errorf("P4.3: of a graph without variables: %+v", got)
	}
	variable(t, g, "z", 4)
	constant(t, g, api.Bits{W: 4, Lo: 7})
	variable(t, g, "p", 0)
	variable(t, g, "a", 128)
	variable(t, g, "m", 64)
	nothing := []api.Named{{Name: "z", V: api.Bits{W: 4}}, {Name: "p"}, {Name: "a", V: api.Bits{W: 128}}, {Name: "m", V: api.Bits{W: 64}}}
	for _, env := range [][]api.Named{
		nil, {},
		{{Name: "q", V: yes}, {Name: "", V: yes}},
		{{Name: "z", V: api.Bits{W: 5, Lo: 1}}, {Name: "p", V: api.Bits{W: 1, Lo: 1}}, {Name: "a", V: yes}, {Name: "m", V: api.Bits{W: 63, Lo: 1}}},
		{{Name: "z", V: api.Bits{W: 4, Lo: 16}}, {Name: "p", V: api.Bits{Lo: 3}}, {Name: "a", V: api.Bits{W: -1}}, {Name: "m", V: api.Bits{W: 64, Lo: 1, Hi: 1}}},
	} {
		if got := eval.Complete(g, env); !slices.Equal(got, nothing) {
			t.Errorf("P4.3: Complete with %+v: %+v", env, got)
		}
	}
	env := []api.Named{{Name: "m", V: api.Bits{W: 64, Lo: 5}}, {Name: "a", V: api.Bits{W: 128, Hi: 1}}, {Name: "q", V: yes}, {Name: "p", V: yes}, {Name: "z", V: api.Bits{W: 4, Lo: 9}}}
	want := []api.Named{env[4], env[3], env[1], env[0]}
	if got := eval.Complete(g, env); !slices.Equal(got, want) {
		t.Errorf("P4.3: Complete with %+v: %+v; wanted %+v", env, got, want)
	}
}

func TestCompleteGraphs(t *testing.T) {
	for seed := range int64(40) {
		source := rand.New(rand.NewSource(seed))
		g := someGraph(t, source, 60)
		env := someAssignment(source, g, true)
		var want []api.Named
		for _, id := range g.Vars() {
			n, _ := g.Node(id)
			v, ok := firstOf(env, n.Name)
			if !ok || !bv.Right(v) || v.W != n.Sort {
				v = api.Bits{W: n.Sort}
			}
			want = append(want, api.Named{Name: n.Name, V: v})
		}
		full := eval.Complete(g, env)
		if !slices.Equal(full, want) {
			t.Errorf("P4.3: seed %d: %+v; wanted %+v", seed, full, want)
		}
		for id := 1; id <= g.Len(); id++ {
			if _, e := eval.Eval(g, id, full); e != api.OK {
				t.Errorf("P4.3: seed %d: node %d has no value under what Complete tells: %v", seed, id, e)
			}
		}
	}
}

func TestValueHangsOnItsVariables(t *testing.T) {
	for seed := range int64(20) {
		source := rand.New(rand.NewSource(seed))
		g := someGraph(t, source, 100)
		env, other := someAssignment(source, g, false), someAssignment(source, g, false)
		for id := 1; id <= g.Len(); id++ {
			cone := g.Cone(id)
			var own, mixed []api.Named // its variables alone; these, and all others with other values
			for _, v := range g.Vars() {
				n, _ := g.Node(v)
				value, _ := firstOf(env, n.Name)
				if slices.Contains(cone, v) {
					own = append(own, api.Named{Name: n.Name, V: value})
				}
			}
			mixed = append(slices.Clone(own), other...)
			want, e := eval.Eval(g, id, env)
			if e != api.OK {
				t.Fatalf("P4.4: seed %d: node %d: %v", seed, id, e)
			}
			for _, l := range [][]api.Named{own, mixed} {
				if got, e := eval.Eval(g, id, l); e != api.OK || got != want {
					t.Errorf("P4.4: seed %d: node %d with other variables changed: %+v, %v; wanted %+v", seed, id, got, e, want)
				}
			}
			if n, _ := g.Node(id); want.W != n.Sort || !bv.Right(want) {
				t.Errorf("P4.4: seed %d: node %d of sort %d: %+v", seed, id, n.Sort, want)
			}
		}
	}
}

func TestOperandsOfOneValue(t *testing.T) {
	for seed := range int64(20) {
		source := rand.New(rand.NewSource(seed))
		g := someGraph(t, source, 100)
		env := someAssignment(source, g, false)
		for id := 1; id <= 100 && id <= g.Len(); id++ {
			n, _ := g.Node(id)
			if term.Arity(n.Op) < 1 {
				continue
			}
			want, _ := eval.Eval(g, id, env)
			n.A = sameValue(t, g, env, n.A)
			if n.B != 0 {
				n.B = sameValue(t, g, env, n.B)
			}
			if n.C != 0 {
				n.C = sameValue(t, g, env, n.C)
			}
			made, e := g.Make(n)
			if e == api.ErrTermMany {
				continue
			}
			if got, e := eval.Eval(g, made, env); e != api.OK || got != want {
				t.Errorf("P4.4: seed %d: %+v, for node %d: %+v, %v; wanted %+v", seed, n, id, got, e, want)
			}
		}
	}
}

// sameValue is another node with the value of one, if the graph has it; else the node itself.
func sameValue(t *testing.T, g *term.Graph, env []api.Named, id int) int {
	t.Helper()
	want, _ := eval.Eval(g, id, env)
	for k := 1; k <= g.Len(); k++ {
		if v, e := eval.Eval(g, k, env); k != id && e == api.OK && v == want {
			return k
		}
	}
	return id
}

func TestNothingIsChangedOrKept(t *testing.T) {
	source := rand.New(rand.NewSource(5))
	g := someGraph(t, source, 60)
	env := someAssignment(source, g, false)
	room := append(slices.Clone(env), api.Named{Name: "spare", V: yes}, api.Named{Name: "spare", V: no})
	ids := []int{g.Len(), 1, g.Len(), 2, 77, 78}
	keptRoom, keptIds := slices.Clone(room), slices.Clone(ids)
	var nodes []api.Node
	for id := 1; id <= g.Len(); id++ {
		n, _ := g.Node(id)
		nodes = append(nodes, n)
	}

	values, _ := eval.All(g, ids[:4], room[:len(env)])
	full := eval.Complete(g, room[:len(env)])
	eval.Eval(g, g.Len(), room[:len(env)])
	if !slices.Equal(room, keptRoom) || !slices.Equal(ids, keptIds) {
		t.Errorf("P4.2, P4.3: what was handed in has changed")
	}
	if g.Len() != len(nodes) {
		t.Errorf("P4.2, P4.3: the graph has %d nodes, not %d", g.Len(), len(nodes))
	}
	for i, want := range nodes {
		if n, _ := g.Node(i + 1); n != want {
			t.Errorf("P4.2, P4.3: node %d has changed: %+v", i+1, n)
		}
	}

	keptValues, keptFull := slices.Clone(values), slices.Clone(full)
	clear(room)
	clear(ids)
	if !slices.Equal(values, keptValues) || !slices.Equal(full, keptFull) {
		t.Errorf("P4.2, P4.3: answers share memory with what was handed in")
	}
	clear(values)
	clear(full)
	again, _ := eval.All(g, keptIds[:4], keptRoom)
	if !slices.Equal(again, keptValues) || !slices.Equal(eval.Complete(g, keptRoom), keptFull) {
		t.Errorf("P4.2, P4.3: answers hang on earlier ones")
	}
}
