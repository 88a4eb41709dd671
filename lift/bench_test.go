package lift_test

import (
	"math/rand"
	"slices"
	"strconv"
	"testing"

	"plait/api"
	"plait/bv"
	"plait/eval"
	"plait/term"
)

// bench: a term graph, and what the tests lay into it.
type bench struct {
	*testing.T
	terms *term.Graph
}

func newBench(t *testing.T) *bench { return &bench{t, term.New(api.MaxTerms)} }

func (b *bench) node(n api.Node) int {
	b.Helper()
	id, e := b.terms.Make(n)
	if e != api.OK {
		b.Fatalf("Make(%+v): %v", n, e)
	}
	return id
}

func (b *bench) variable(name string, sort int) int {
	b.Helper()
	return b.node(api.Node{Op: api.OpVar, Sort: sort, Name: name})
}

func (b *bench) constant(text string) int {
	b.Helper()
	v := parse(b.T, text)
	return b.node(api.Node{Op: api.OpConst, Sort: v.W, V: v})
}

func (b *bench) op(op int, operands ...int) int {
	b.Helper()
	l := append(slices.Clone(operands), 0, 0, 0)
	return b.node(api.Node{Op: op, A: l[0], B: l[1], C: l[2]})
}

// The reference of these tests: a value for each variable by hand, and what each node is worth by eval's operators alone.

// valueIn is that of the first one of the name, if it fits, else 0.
func valueIn(env []api.Named, n api.Node) api.Bits {
	i := slices.IndexFunc(env, func(x api.Named) bool { return x.Name == n.Name })
	if i >= 0 && bv.Right(env[i].V) && env[i].V.W == n.Sort {
		return env[i].V
	}
	return api.Bits{W: n.Sort}
}

func (b *bench) wantedModel(env []api.Named) []api.Named {
	var full []api.Named
	for id := 1; id <= b.terms.Len(); id++ {
		if n, _ := b.terms.Node(id); n.Op == api.OpVar {
			full = append(full, api.Named{Name: n.Name, V: valueIn(env, n)})
		}
	}
	return full
}

// worth is what each node is worth, node 1 first; of nodes that aren't there nothing.
func (b *bench) worth(env []api.Named) []api.Bits {
	values := []api.Bits{{}}
	for id := 1; id <= b.terms.Len(); id++ {
		n, _ := b.terms.Node(id)
		switch n.Op {
		case api.OpConst:
			values = append(values, n.V)
		case api.OpVar:
			values = append(values, valueIn(env, n))
		default:
			operands := []api.Bits{values[n.A], values[n.B], values[n.C]}
			v, _ := eval.Apply(n.Op, n.P, n.Q, operands[:term.Arity(n.Op)])
			values = append(values, v)
		}
	}
	return values
}

func (b *bench) wantedHolds(ids []int, values []api.Bits) bool {
	for _, id := range ids {
		n, ok := b.terms.Node(id)
		if !ok || n.Sort != 0 || values[id].Lo != 1 {
			return false
		}
	}
	return true
}

// variableSorts are those of v0, v1 ..
var variableSorts = [...]int{0, 1, 4, 64, 65, 128}

// fill makes nodes of all kinds at random, until there are so many.
func (b *bench) fill(source *rand.Rand, many int) {
	for i, sort := range variableSorts {
		b.variable("v"+strconv.Itoa(i), sort)
		b.node(api.Node{Op: api.OpConst, Sort: sort, V: mixedValue(source, sort)})
	}
	for b.terms.Len() < many {
		n := api.Node{Op: api.OpNot + source.Intn(api.OpRepeat-api.OpNot+1)}
		operands := [...]*int{&n.A, &n.B, &n.C}
		for i := range term.Arity(n.Op) {
			*operands[i] = 1 + source.Intn(b.terms.Len())
		}
		if n.Op >= api.OpExtract {
			n.P = source.Intn(5)
		}
		if n.Op == api.OpExtract {
			n.Q = source.Intn(n.P + 1)
		}
		b.terms.Make(n) // most of them don't fit
	}
}

func mixedValue(source *rand.Rand, sort int) api.Bits {
	if sort == 0 {
		return bv.Bool(source.Intn(2) == 1)
	}
	v, _ := bv.New(sort, source.Uint64(), source.Uint64())
	return v
}

// mixedAssignment has names that there are and others, some more than once, with values that fit and others.
func mixedAssignment(source *rand.Rand, many int) []api.Named {
	var env []api.Named
	for range many {
		i := source.Intn(len(variableSorts) + 2)
		x := api.Named{Name: "v" + strconv.Itoa(i), V: mixedValue(source, variableSorts[i%len(variableSorts)])}
		switch source.Intn(6) {
		case 0:
			x.V.Lo = source.Uint64()
		case 1:
			x.V.W = source.Intn(140) - 5
		}
		env = append(env, x)
	}
	return env
}
