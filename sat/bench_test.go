package sat_test

import (
	"math/rand"
	"slices"
	"testing"

	"plait/api"
	"plait/sat"
	"plait/trace"
)

// bench: a solver, and beside it all assignments of few variables, one by one: what the solver tells is held against these.
type bench struct {
	t                *testing.T
	s                *sat.Solver
	n                int // variables 1 to n
	words, conflicts int
	added            [][]int
	size             int             // words of all clauses
	sets             map[string]bool // all clauses, added and learned
	right            []bool          // by assignments, as bits: whether all added clauses are true
	verdicts         map[string]int  // by assumptions: what was told since the last clause was added
	ends             map[string]int  // how many Solves ended so
}

func newBench(t *testing.T, n, words, conflicts int) *bench {
	b := &bench{t: t, s: sat.New(words, conflicts), n: n, words: words, conflicts: conflicts, sets: map[string]bool{}, ends: map[string]int{}}
	for range 1 << n {
		b.right = append(b.right, true)
	}
	return b
}

// isTrue tells whether a literal is true under an assignment as bits.
func isTrue(l, bits int) bool {
	if l < 0 {
		return bits>>(-l-1)&1 == 0
	}
	return bits>>(l-1)&1 == 1
}

// holds tells whether a clause is true under an assignment as bits.
func holds(clause []int, bits int) bool {
	return slices.ContainsFunc(clause, func(l int) bool { return isTrue(l, bits) })
}

// setOf tells a clause's literals, in one spelling whatever their order.
func setOf(clause []int) string {
	text := ""
	for _, l := range slices.Compact(slices.Sorted(slices.Values(clause))) {
		text += string(rune(l + 1<<17))
	}
	return text
}

// firsts tells the literals of a list, each at its first place.
func firsts(l []int) []int {
	var out []int
	for _, x := range l {
		if !slices.Contains(out, x) {
			out = append(out, x)
		}
	}
	return out
}

// can tells whether an assignment makes all added clauses, and literals, true.
func (b *bench) can(lits []int) bool {
	for bits, right := range b.right {
		if right && !slices.ContainsFunc(lits, func(l int) bool { return !isTrue(l, bits) }) {
			return true
		}
	}
	return false
}

// add adds a clause of literals 1 to n, and holds what is told against the chapter's words.
func (b *bench) add(clause []int) api.Errno {
	b.t.Helper()
	want, once := api.OK, firsts(clause)
	if slices.ContainsFunc(once, func(l int) bool { return slices.Contains(once, -l) }) {
		want = api.ErrStoreBoth
	} else if b.size+len(once)+2 > b.words {
		want = api.ErrStoreMany
	}
	if e := b.s.Add(clause); e != want {
		b.t.Fatalf("P13.1: Add(%v) behind %v: %v, not %v", clause, b.added, e, want)
	}
	if want == api.OK {
		b.added = append(b.added, once)
		b.size += len(once) + 2
		b.sets[setOf(once)] = true
		b.verdicts = nil
		for bits := range b.right {
			b.right[bits] = b.right[bits] && holds(once, bits)
		}
	}
	b.stores()
	return want
}

// stores holds Clauses and Words against what was added and learned.
func (b *bench) stores() {
	b.t.Helper()
	if got := b.s.Clauses(); !slices.EqualFunc(got, b.added, slices.Equal[[]int]) {
		b.t.Fatalf("P13.1: Clauses: %v, not %v", got, b.added)
	}
	if got := b.s.Words(); got != b.size || got > b.words {
		b.t.Fatalf("P13.1: Words: %d, not %d of %d", got, b.size, b.words)
	}
}

// solve solves, and holds all that is told then against the assignments.
func (b *bench) solve(assume []int) (int, api.Errno) {
	b.t.Helper()
	size := b.size
	v, e := b.s.Solve(assume)
	b.learned()
	b.stores()
	b.verdict(assume, v, e, size)
	switch v {
	case api.Sat:
		b.model(assume)
	case api.Unsat:
		b.core(assume)
	}
	if v != api.Sat && slices.ContainsFunc(b.variables(), b.s.Value) {
		b.t.Fatalf("P13.3: %v, Solve(%v): %d, and a variable is true", b.added, assume, v)
	}
	if v != api.Unsat && len(b.s.Core()) > 0 {
		b.t.Fatalf("P13.3: %v, Solve(%v): %d, and a core %v", b.added, assume, v, b.s.Core())
	}
	b.trace(v)
	return v, e
}

// variables tells all variables, and some that there aren't.
func (b *bench) variables() []int {
	all := []int{-1, 0, b.n + 1, api.MaxVars, api.MaxVars + 1}
	for v := range b.n {
		all = append(all, v+1)
	}
	return all
}

// verdict holds a verdict against the assignments, and against what was told before.
func (b *bench) verdict(assume []int, v int, e api.Errno, size int) {
	b.t.Helper()
	learned := len(b.s.Learned())
	kind := map[int]string{api.Sat: "sat", api.Unsat: "unsat"}[v]
	switch {
	case e == api.OK && v == api.Sat && b.can(assume):
	case e == api.OK && v == api.Unsat && !b.can(assume):
		if len(b.s.Core()) > 0 {
			kind = "core"
		}
	case e == api.ErrSatConflicts && v == api.Unknown && learned == b.conflicts:
		kind = "conflicts"
	case e == api.ErrStoreMany && v == api.Unknown && b.size+2+b.n > b.words:
		kind = "many"
	default:
		b.t.Fatalf("P13.2: %v, Solve(%v): %d, %v, %d learned", b.added, assume, v, e, learned)
	}
	if learned > b.conflicts || learned == 0 && b.size != size {
		b.t.Fatalf("P13.2: %d clauses of %d learned, %d words", learned, b.conflicts, b.size)
	}
	b.ends[kind]++
	if b.verdicts == nil {
		b.verdicts = map[string]int{}
	}
	list := string(rune(1<<16)) + setOf(assume)
	if was := b.verdicts[list]; was != api.Unknown && was != v {
		b.t.Fatalf("P13.7: %v, Solve(%v): %d, %v; before: %d", b.added, assume, v, e, was)
	}
	b.verdicts[list] = v
}

// learned holds the learned clauses against the assignments and all other clauses.
func (b *bench) learned() {
	b.t.Helper()
	for _, c := range b.s.Learned() {
		once := firsts(c)
		if len(once) != len(c) || slices.ContainsFunc(c, func(l int) bool { return slices.Contains(c, -l) }) || b.sets[setOf(c)] {
			b.t.Fatalf("P13.5: %v: learned %v", b.added, c)
		}
		for bits, right := range b.right {
			if right && !holds(c, bits) {
				b.t.Fatalf("P13.5: %v: %v isn't entailed", b.added, c)
			}
		}
		b.sets[setOf(c)] = true
		b.size += len(c) + 2
	}
}

// model holds Value against the clauses and assumptions.
func (b *bench) model(assume []int) {
	b.t.Helper()
	met := map[int]bool{}
	for _, c := range append(slices.Clone(b.added), assume) {
		for _, l := range c {
			met[max(l, -l)] = true
		}
	}
	bits := 0
	for _, v := range b.variables() {
		if b.s.Value(v) && !met[v] {
			b.t.Fatalf("P13.3: %v, Solve(%v): %d is true, which nothing has", b.added, assume, v)
		}
		if b.s.Value(v) {
			bits |= 1 << (v - 1)
		}
	}
	if !b.right[bits] || slices.ContainsFunc(assume, func(l int) bool { return !isTrue(l, bits) }) {
		b.t.Fatalf("P13.3: %v, Solve(%v): %b", b.added, assume, bits)
	}
}

// core holds Core against the assignments.
func (b *bench) core(assume []int) {
	b.t.Helper()
	core := b.s.Core()
	rest := slices.DeleteFunc(firsts(assume), func(l int) bool { return !slices.Contains(core, l) })
	if !slices.Equal(core, rest) || b.can(core) {
		b.t.Fatalf("P13.3: %v, Solve(%v): core %v", b.added, assume, core)
	}
}

// trace holds Trace against trace.Check.
func (b *bench) trace(v int) {
	b.t.Helper()
	bytes, e := b.s.Trace()
	if v != api.Unsat || len(b.s.Core()) > 0 {
		if e != api.ErrTraceEnd || len(bytes) > 0 {
			b.t.Fatalf("P13.4: %v: verdict %d, core %v: a trace, %v", b.added, v, b.s.Core(), e)
		}
		return
	}
	checkTrace(b.t, b.s)
}

// checkTrace holds a trace that there must be against trace.Check; without a step that isn't needed.
func checkTrace(t *testing.T, s *sat.Solver) []byte {
	t.Helper()
	bytes, e := s.Trace()
	if e != api.OK {
		t.Fatalf("P13.4: %v: %v", s.Clauses(), e)
	}
	if e := trace.Check(s.Clauses(), bytes); e != api.OK {
		t.Fatalf("P13.4: %v: not accepted: %v", s.Clauses(), e)
	}
	if short, _ := trace.Trim(s.Clauses(), bytes); len(short) != len(bytes) {
		t.Fatalf("P13.4: %d bytes, of which %d are needed", len(bytes), len(short))
	}
	return bytes
}

// someLits makes so many literals of variables 1 to n.
func someLits(r *rand.Rand, n, many int) []int {
	lits := make([]int, many)
	for i := range lits {
		lits[i] = (1 + r.Intn(n)) * (1 - 2*r.Intn(2))
	}
	return lits
}

// someClause makes a clause of so many variables of 1 to n.
func someClause(r *rand.Rand, n, many int) []int {
	clause := r.Perm(n)[:many]
	for i, v := range clause {
		clause[i] = (v + 1) * (1 - 2*r.Intn(2))
	}
	return clause
}

// filled makes a solver of clauses, all of which must be taken.
func filled(t *testing.T, clauses [][]int, words, conflicts int) *sat.Solver {
	t.Helper()
	s := sat.New(words, conflicts)
	for _, c := range clauses {
		if e := s.Add(c); e != api.OK {
			t.Fatalf("P13.1: Add(%v): %v", c, e)
		}
	}
	return s
}

// pigeons: n + 1 of them in n holes.
func pigeons(n int) [][]int {
	var clauses [][]int
	for p := range n + 1 {
		var one []int
		for h := range n {
			one = append(one, 1+p*n+h)
			for q := range p {
				clauses = append(clauses, []int{-(1 + p*n + h), -(1 + q*n + h)})
			}
		}
		clauses = append(clauses, one)
	}
	return clauses
}

// allClauses tells all clauses over variables 1 to n.
func allClauses(n int) [][]int {
	all := [][]int{nil}
	for v := 1; v <= n; v++ {
		for _, c := range all[:len(all):len(all)] {
			all = append(all, append(slices.Clone(c), v), append(slices.Clone(c), -v))
		}
	}
	return all
}

// certify holds what a solver tells of clauses, too many for all assignments, against the clauses: a model, a trace, or of a core a trace with its literals added.
func certify(t *testing.T, s *sat.Solver, assume []int, v int) {
	t.Helper()
	clauses := s.Clauses()
	switch {
	case v == api.Sat:
		for _, l := range assume {
			clauses = append(clauses, []int{l})
		}
		for _, c := range clauses {
			if !slices.ContainsFunc(c, func(l int) bool { return s.Value(max(l, -l)) == (l > 0) }) {
				t.Fatalf("P13.3: %v isn't true", c)
			}
		}
	case v == api.Unsat && len(s.Core()) == 0:
		checkTrace(t, s)
	case v == api.Unsat:
		for _, l := range s.Core() {
			if !slices.Contains(assume, l) {
				t.Fatalf("P13.3: core %v of %v", s.Core(), assume)
			}
			clauses = append(clauses, []int{l})
		}
		// What was learned follows from the clauses, so the core's literals are checked with that added.
		for _, c := range s.Learned() {
			clauses = append(clauses, c)
		}
		again := filled(t, clauses, api.MaxArena, api.MaxConflicts)
		if v, e := again.Solve(nil); v != api.Unsat {
			t.Fatalf("P13.3: core %v: %d, %v", s.Core(), v, e)
		}
		checkTrace(t, again)
	}
}
