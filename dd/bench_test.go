package dd_test

import (
	"math/rand"
	"slices"
	"strconv"
	"testing"

	"plait/api"
	"plait/dd"
)

// table: a function of at most six variables: bit a is its value under assignment a, whose bit i is variable i's value.
type table uint64

// bench: a manager, and beside it the functions that its numbers are, as tables: each function that isn't the same everywhere has one node, if it is there.
type bench struct {
	t        *testing.T
	m        *dd.Manager
	n, most  int
	all      table
	answered map[int]table // by numbers: what was answered behind the last collection
	pinned   map[int]table
	pins     map[int]int
	nodes    map[table]bool // what the manager has nodes of
	told     []int          // all numbers and errors that were told
	ends     map[string]int // how many calls ended so
}

func newBench(t *testing.T, n, most int) *bench {
	b := &bench{t: t, m: dd.New(n, most), n: n, most: max(most, 2), all: 1<<(1<<n) - 1}
	b.answered, b.pinned, b.pins = map[int]table{}, map[int]table{}, map[int]int{}
	b.nodes, b.ends = map[table]bool{}, map[string]int{}
	return b
}

// variable tells the table of a variable.
func (b *bench) variable(i int) table {
	var f table
	for a := range 1 << b.n {
		f |= table(a>>i&1) << a
	}
	return f
}

// with tells a function's table, if a variable has a value.
func (b *bench) with(f table, i int, value int) table {
	var g table
	for a := range 1 << b.n {
		g |= f >> (a&^(1<<i) | value<<i) & 1 << a
	}
	return g
}

// halves tells the first variable on which a function hangs, and what it is with it false, and true.
func (b *bench) halves(f table) (int, table, table) {
	for i := range b.n {
		if no, yes := b.with(f, i, 0), b.with(f, i, 1); no != yes {
			return i, no, yes
		}
	}
	b.t.Fatalf("the bench: %x hangs on no variable", f)
	return 0, 0, 0
}

// parts puts all functions that a function's diagram has nodes of into a set.
func (b *bench) parts(set map[table]bool, functions ...table) map[table]bool {
	for _, f := range functions {
		if f == 0 || f == b.all || set[f] {
			continue
		}
		set[f] = true
		_, no, yes := b.halves(f)
		b.parts(set, no, yes)
	}
	return set
}

// kept tells what there must be nodes of: of what is pinned, and of some functions beside.
func (b *bench) kept(functions ...table) map[table]bool {
	set := b.parts(map[table]bool{}, functions...)
	for _, f := range b.pinned {
		b.parts(set, f)
	}
	return set
}

// read tells a number's function, by asking for its value under all assignments.
func (b *bench) read(f int) (table, api.Errno) {
	var read table
	for a := range 1 << b.n {
		in := make([]bool, b.n)
		for i := range in {
			in[i] = a>>i&1 == 1
		}
		v, e := b.m.Eval(f, in)
		if e != api.OK {
			return 0, e
		}
		if v {
			read |= 1 << a
		}
	}
	return read, api.OK
}

// alive tells all numbers that are alive, and their functions: what was answered or pinned, with all its parts.
func (b *bench) alive() map[int]table {
	alive := map[int]table{0: 0, 1: b.all}
	for _, list := range []map[int]table{b.answered, b.pinned} {
		for f, want := range list {
			b.reach(alive, f, want)
		}
	}
	return alive
}

// reach goes over a number's nodes and holds them against the function that it must be.
func (b *bench) reach(alive map[int]table, f int, want table) {
	b.t.Helper()
	if got, ok := alive[f]; ok {
		if got != want {
			b.t.Fatalf("P14.5: %d is both %x and %x", f, got, want)
		}
		return
	}
	v, lo, hi, ok := b.m.Node(f)
	if !ok || want == 0 || want == b.all {
		b.t.Fatalf("P14.1: Node(%d): %v, and it is alive: %x", f, ok, want)
	}
	top, no, yes := b.halves(want)
	if v != top || lo == hi {
		b.t.Fatalf("P14.3: Node(%d) of %x: %d, %d, %d", f, want, v, lo, hi)
	}
	alive[f] = want
	b.reach(alive, lo, no)
	b.reach(alive, hi, yes)
}

// check holds all that can be asked against the functions.
func (b *bench) check() {
	b.t.Helper()
	numbers := map[table]int{}
	for f, want := range b.alive() {
		if other, ok := numbers[want]; ok {
			b.t.Fatalf("P14.5: %d and %d are both %x", f, other, want)
		}
		numbers[want] = f
		b.checkOne(f, want)
	}
	if got, want := b.m.Live(), len(b.kept()); got != want {
		b.t.Fatalf("P14.3: Live: %d, not %d", got, want)
	}
	// The program's numbers are below most and 2, so these are all.
	there := 0
	for f := -2; f < b.most+4; f++ {
		if _, e := b.m.Size(f); e == api.OK {
			there++
			if got, _ := b.read(f); isInside(b, got) && !b.nodes[got] {
				b.t.Fatalf("P14.1: %d is %x, which had to go", f, got)
			}
		}
	}
	if there != len(b.nodes)+2 {
		b.t.Fatalf("P14.1: %d diagrams, not %d and two", there, len(b.nodes))
	}
}

func isInside(b *bench, f table) bool { return f != 0 && f != b.all }

// checkOne holds what is told of one number against its function.
func (b *bench) checkOne(f int, want table) {
	b.t.Helper()
	if got, e := b.read(f); e != api.OK || got != want {
		b.t.Fatalf("P14.4: Eval of %d: %x, %v, not %x", f, got, e, want)
	}
	if got, e := b.m.Size(f); e != api.OK || got != len(b.parts(map[table]bool{}, want)) {
		b.t.Fatalf("P14.3: Size(%d) of %x: %d, %v", f, want, got, e)
	}
	many := 0
	for a := range 1 << b.n {
		many += int(want >> a & 1)
	}
	if got, e := b.m.Count(f); e != api.OK || got != strconv.Itoa(many) {
		b.t.Fatalf("P14.4: Count(%d) of %x: %s, %v, not %d", f, want, got, e, many)
	}
	got, ok, e := b.m.Some(f)
	if e != api.OK || ok != (want != 0) || !slices.Equal(got, b.some(want)) {
		b.t.Fatalf("P14.4: Some(%d) of %x: %v, %v, %v, not %v", f, want, got, ok, e, b.some(want))
	}
}

// some tells the way that Some must tell.
func (b *bench) some(f table) []int {
	var way []int
	for isInside(b, f) {
		i, no, yes := b.halves(f)
		if no != 0 {
			way, f = append(way, -(i+1)), no
		} else {
			way, f = append(way, i+1), yes
		}
	}
	return way
}

// held: the numbers that a call is given, and their functions.
type held struct {
	numbers   []int
	functions []table
}

// took goes on behind a call: which number and error it told, which function had to be told of which operands.
func (b *bench) took(name string, got int, e api.Errno, want table, operands held) {
	b.t.Helper()
	b.told = append(b.told, got, int(e))
	need := b.kept(append(operands.functions, want)...)
	both := b.parts(map[table]bool{}, want)
	for f := range b.nodes {
		both[f] = true
	}
	if len(both) > b.most {
		b.ends["collected"]++
		clear(b.answered)
		for i, f := range operands.numbers {
			b.answered[f] = operands.functions[i]
		}
		both = need
	}
	if len(need) > b.most {
		b.ends["refused"]++
		if got != 0 || e != api.ErrDdNodes {
			b.t.Fatalf("P14.2: %s%v: %d, %v, though %d nodes are needed and %d may be", name, operands, got, e, len(need), b.most)
		}
		b.nodes = b.kept(operands.functions...)
		b.check()
		return
	}
	if e != api.OK {
		b.t.Fatalf("P14.2: %s%v: %v, though only %d nodes are needed and %d may be", name, operands, e, len(need), b.most)
	}
	for f, function := range b.alive() {
		if (f == got) != (function == want) {
			b.t.Fatalf("P14.5: %s%v: %d, which is %x; %d is %x", name, operands, got, want, f, function)
		}
	}
	b.ends["done"]++
	b.answered[got], b.nodes = want, both
	b.check()
}

// call asks for one of Ite, Not, And, Or, Xor, of numbers that may be none.
func (b *bench) call(name string, numbers ...int) (int, api.Errno) {
	b.t.Helper()
	operands := held{numbers: numbers}
	for _, f := range numbers {
		function, e := b.read(f)
		if e != api.OK {
			return b.refusedNode(name, numbers)
		}
		operands.functions = append(operands.functions, function)
	}
	got, e := ask(b.m, name, numbers)
	b.took(name, got, e, meaning(b.all, name, operands.functions), operands)
	return got, e
}

// refusedNode asks with what is no diagram: nothing may change.
func (b *bench) refusedNode(name string, numbers []int) (int, api.Errno) {
	b.t.Helper()
	got, e := ask(b.m, name, numbers)
	if got != 0 || e != api.ErrDdNode {
		b.t.Fatalf("P14.2: %s%v: %d, %v", name, numbers, got, e)
	}
	b.ends["none"]++
	b.check()
	return got, e
}

// makeVariable asks for a variable.
func (b *bench) makeVariable(i int) (int, api.Errno) {
	b.t.Helper()
	got, e := b.m.Var(i)
	if i < 0 || i >= b.n {
		if got != 0 || e != api.ErrDdVar {
			b.t.Fatalf("P14.2: Var(%d): %d, %v", i, got, e)
		}
		b.check()
		return got, e
	}
	b.took("Var", got, e, b.variable(i), held{})
	return got, e
}

// pin pins a number.
func (b *bench) pin(f int) {
	b.t.Helper()
	function, none := b.read(f)
	if e := b.m.Pin(f); e != none {
		b.t.Fatalf("P14.3: Pin(%d): %v, not %v", f, e, none)
	}
	if none == api.OK && isInside(b, function) {
		b.pins[f]++
		b.pinned[f] = function
	}
	b.check()
}

// unpin lets a number go.
func (b *bench) unpin(f int) {
	b.t.Helper()
	want := api.OK
	if f != 0 && f != 1 && b.pins[f] == 0 {
		want = api.ErrDdNode
	}
	if e := b.m.Unpin(f); e != want {
		b.t.Fatalf("P14.3: Unpin(%d): %v, not %v", f, e, want)
	}
	if b.pins[f] > 0 {
		b.pins[f]--
	}
	if b.pins[f] == 0 {
		delete(b.pinned, f)
	}
	b.check()
}

// ask calls by name.
func ask(m *dd.Manager, name string, f []int) (int, api.Errno) {
	switch name {
	case "Ite":
		return m.Ite(f[0], f[1], f[2])
	case "Not":
		return m.Not(f[0])
	case "And":
		return m.And(f[0], f[1])
	case "Or":
		return m.Or(f[0], f[1])
	}
	return m.Xor(f[0], f[1])
}

// meaning tells what a call means of tables.
func meaning(all table, name string, f []table) table {
	switch name {
	case "Ite":
		return f[0]&f[1] | (all&^f[0])&f[2]
	case "Not":
		return all &^ f[0]
	case "And":
		return f[0] & f[1]
	case "Or":
		return f[0] | f[1]
	}
	return f[0] ^ f[1]
}

// operandsOf tells how many operands each call has.
func operandsOf(name string) int {
	return map[string]int{"Ite": 3, "Not": 1, "And": 2, "Or": 2, "Xor": 2}[name]
}

// some numbers: mostly of what is alive.
func (b *bench) someNumber(r *rand.Rand) int {
	if r.Intn(40) == 0 {
		return r.Intn(b.most+8) - 3
	}
	var alive []int
	for f := range b.alive() {
		alive = append(alive, f)
	}
	slices.Sort(alive)
	return alive[r.Intn(len(alive))]
}

// step makes some call.
func (b *bench) step(r *rand.Rand) {
	b.t.Helper()
	names := []string{"Ite", "Not", "And", "Or", "Xor"}
	switch k := r.Intn(12); {
	case k < 2:
		b.makeVariable(r.Intn(b.n+2) - 1)
	case k < 8:
		name := names[r.Intn(len(names))]
		var numbers []int
		for range operandsOf(name) {
			numbers = append(numbers, b.someNumber(r))
		}
		b.call(name, numbers...)
	case k < 9 || len(b.pinned) < 2:
		b.pin(b.someNumber(r))
	case k < 10:
		b.unpin(b.someNumber(r))
	default:
		var pinned []int
		for f := range b.pinned {
			pinned = append(pinned, f)
		}
		slices.Sort(pinned)
		b.unpin(pinned[r.Intn(len(pinned))])
	}
}
