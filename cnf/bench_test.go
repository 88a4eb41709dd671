package cnf_test

import (
	"math/rand"
	"slices"
	"testing"

	"plait/aig"
	"plait/api"
	"plait/cnf"
)

// bench: an encoder with all that it told, and what was asked.
type bench struct {
	t       *testing.T
	g       *aig.Graph
	e       *cnf.Encoder
	clauses [][]int
	roots   []root
}

// root: a graph's literal, and the clause literal that was told for it.
type root struct{ l, r int }

func newBench(t *testing.T, inputs, first int) *bench {
	t.Helper()
	g := aig.New(api.MaxGraph)
	for range inputs {
		g.Input()
	}
	return &bench{t: t, g: g, e: cnf.New(g, first)}
}

func (b *bench) and(x, y int) int {
	b.t.Helper()
	l, err := b.g.And(x, y)
	if err != api.OK {
		b.t.Fatalf("And(%d, %d): %v", x, y, err)
	}
	return l
}

// root asks for a root that must not be refused, and keeps what is told.
func (b *bench) root(l int) (int, [][]int) {
	b.t.Helper()
	r, clauses, err := b.e.Root(l)
	if err != api.OK || r == 0 {
		b.t.Fatalf("P10.2: Root(%d): %d, %v, %v", l, r, clauses, err)
	}
	b.clauses = append(b.clauses, clauses...)
	b.roots = append(b.roots, root{l, r})
	return r, clauses
}

// refused asks for a root that must be refused with err, and what changes then.
func (b *bench) refused(l int, want api.Errno) {
	b.t.Helper()
	vars, names := b.e.Vars(), b.names()
	r, clauses, err := b.e.Root(l)
	if r != 0 || len(clauses) != 0 || err != want {
		b.t.Errorf("P10.2: Root(%d): %d, %v, %v; should be %v", l, r, clauses, err, want)
	}
	if b.e.Vars() != vars || !slices.Equal(b.names(), names) {
		b.t.Errorf("P10.2: a refused Root(%d) changed %d, %v to %d, %v", l, vars, names, b.e.Vars(), b.names())
	}
}

// names tells the variables of all nodes, 0 of those without one.
func (b *bench) names() []int {
	b.t.Helper()
	var l []int
	for n := range b.g.Nodes() + 1 {
		v, ok := b.e.Of(n)
		if ok != (v != 0) {
			b.t.Errorf("P10.1: Of(%d): %d, %v", n, v, ok)
		}
		l = append(l, v)
	}
	return l
}

// chance makes so many ands of literals by chance, some of which may be there already.
func (b *bench) chance(r *rand.Rand, ands int) {
	for range ands {
		b.g.And(2+r.Intn(2*b.g.Nodes()), 2+r.Intn(2*b.g.Nodes()))
	}
}

func isTrue(literal, v int) bool {
	if literal < 0 {
		return v>>(-literal-1)&1 == 0
	}
	return v>>(literal-1)&1 == 1
}

func holds(clauses [][]int, v int) bool {
	for _, c := range clauses {
		if !slices.ContainsFunc(c, func(x int) bool { return isTrue(x, v) }) {
			return false
		}
	}
	return true
}

// in tells the inputs' values under v, and the same as bits; an input without a variable has the value of more's bit.
func (b *bench) in(v, more int) ([]bool, int) {
	var in []bool
	bits := 0
	for i, l := range b.g.Inputs() {
		x := more>>i&1 == 1
		if k, ok := b.e.Of(l / 2); ok {
			x = isTrue(k, v)
		}
		in = append(in, x)
		if x {
			bits |= 1 << i
		}
	}
	return in, bits
}

func (b *bench) value(l int, in []bool) bool {
	b.t.Helper()
	v, err := b.g.Eval(l, in)
	if err != api.OK {
		b.t.Fatalf("Eval(%d, %v): %v", l, in, err)
	}
	return v
}

// checkMeaning goes through all assignments of all variables, which must be few and begin at 1: P10.2 (a) and (b), and P10.4 for each choice among the last roots.
func (b *bench) checkMeaning() {
	b.t.Helper()
	inputs := len(b.g.Inputs())
	all := 1 << inputs
	right := make([]bool, all) // by inputs: all roots' literals can have their roots' values at once
	lasts := b.roots[max(len(b.roots)-3, 0):]
	can := make([]bool, 1<<len(lasts)) // by a choice of roots: the clauses, and their literals as units, have an assignment
	want := make([]bool, 1<<len(lasts))
	for v := range 1 << b.e.Vars() {
		if !holds(b.clauses, v) {
			continue
		}
		for more := range all {
			in, bits := b.in(v, more)
			same := true
			for _, x := range b.roots {
				got, value := isTrue(x.r, v), b.value(x.l, in)
				same = same && got == value
				if got && !value {
					b.t.Fatalf("P10.2: of roots %v, clauses %v: under %b literal %d is true, %d isn't", b.roots, b.clauses, v, x.r, x.l)
				}
			}
			right[bits] = right[bits] || same
		}
		mark(can, lasts, func(x root) bool { return isTrue(x.r, v) })
	}
	for more := range all {
		in := make([]bool, inputs)
		for i := range in {
			in[i] = more>>i&1 == 1
		}
		mark(want, lasts, func(x root) bool { return b.value(x.l, in) })
		if !right[more] {
			b.t.Fatalf("P10.2: of roots %v, clauses %v: inputs %b have no assignment with the roots' values", b.roots, b.clauses, more)
		}
	}
	if !slices.Equal(can, want) {
		b.t.Fatalf("P10.4: roots %v, clauses %v: can be true: %v; should be %v", b.roots, b.clauses, can, want)
	}
}

// mark notes each choice of roots of which all are true.
func mark(at []bool, roots []root, is func(root) bool) {
	for choice := range at {
		all := true
		for i, x := range roots {
			all = all && (choice>>i&1 == 0 || is(x))
		}
		at[choice] = at[choice] || all
	}
}

// checkForm: P10.3, of all clauses that were told.
func (b *bench) checkForm() {
	b.t.Helper()
	met := map[string][]int{}
	for _, c := range b.clauses {
		sorted := slices.Sorted(slices.Values(c))
		for i, x := range sorted {
			if x == 0 || max(x, -x) > b.e.Vars() || slices.Contains(c, -x) || i > 0 && x == sorted[i-1] {
				b.t.Fatalf("P10.3: clause %v", c)
			}
		}
		key := text(sorted)
		if met[key] != nil {
			b.t.Fatalf("P10.3: clause %v is told twice", c)
		}
		met[key] = c
	}
}

func text(l []int) string {
	var s []rune
	for _, x := range l {
		s = append(s, rune(x+0x10000))
	}
	return string(s)
}

// needed is a second writing of what polarities ask for, by recursion: which of a literal's node's two literals must be told.
type needed struct {
	g  *aig.Graph
	of map[int]bool // by literals
}

func (n needed) add(l int) {
	if n.of[l] || l < 2 {
		n.of[l] = true
		return
	}
	n.of[l] = true
	if a, b, ok := n.g.Kids(l / 2); ok && l%2 == 0 {
		n.add(a)
		n.add(b)
	} else if ok {
		n.add(a ^ 1)
		n.add(b ^ 1)
	}
}

// clauses tells how many must have been told in all.
func (n needed) clauses() int {
	sum := 0
	for l := range n.of {
		if _, _, ok := n.g.Kids(l / 2); ok {
			sum += 2 - l%2
		}
	}
	if n.of[0] || n.of[1] {
		sum++
	}
	return sum
}

// variables tells how many nodes must have one.
func (n needed) variables() int {
	nodes := map[int]bool{}
	for l := range n.of {
		nodes[l/2] = true
	}
	return len(nodes)
}
