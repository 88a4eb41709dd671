package session_test

import (
	"math/bits"
	"slices"
	"strconv"
	"testing"

	"plait/api"
	"plait/bv"
	"plait/eval"
	"plait/read"
	"plait/sat"
	"plait/session"
	"plait/sexp"
	"plait/term"
	"plait/trace"
)

// bench: a session, and beside it the same texts, read and evaluated under all assignments: what the session tells is held against these.
type bench struct {
	*testing.T
	*session.Session
	limits  api.Limits
	engine  int
	terms   *term.Graph
	scope   *read.Scope
	names   []api.Param
	frames  [][]int
	envs    [][]api.Named // all assignments
	truths  map[int][]uint64
	emitted [][]int         // all clauses that were emitted, as far as they were told
	pending [][]int         // what was learned while it wasn't told what was emitted
	sets    map[string]bool // of all clauses that were emitted or learned
	words   int             // of these
	stores  api.Stores      // what Stores told last
	ends    map[string]int  // how many checks ended so
}

func newBench(t *testing.T, l api.Limits, names ...api.Param) *bench {
	t.Helper()
	b := &bench{
		T: t, Session: session.New(l), limits: l, engine: api.EngineA,
		terms: term.New(api.MaxTerms), names: names, frames: [][]int{nil},
		truths: map[int][]uint64{}, sets: map[string]bool{}, ends: map[string]int{},
	}
	b.scope = read.New(b.terms)
	for _, p := range names {
		b.scope.Declare(p.Name, p.Sort)
		b.want("P17.1: Declare "+p.Name, b.Declare(p.Name, p.Sort), api.OK)
	}
	b.envs = assignments(names)
	return b
}

// words makes parameters of one sort.
func words(sort int, names ...string) []api.Param {
	var l []api.Param
	for _, name := range names {
		l = append(l, api.Param{Name: name, Sort: sort})
	}
	return l
}

// assignments are all of these variables.
func assignments(names []api.Param) [][]api.Named {
	l := [][]api.Named{nil}
	for _, p := range names {
		var more [][]api.Named
		for _, env := range l {
			for i := range 1 << max(p.Sort, 1) {
				more = append(more, append(env[:len(env):len(env)], api.Named{Name: p.Name, V: api.Bits{W: p.Sort, Lo: uint64(i)}}))
			}
		}
		l = more
	}
	return l
}

// one parses one text.
func one(t *testing.T, text string) api.Sexp {
	t.Helper()
	l, err := sexp.Parse(text)
	if err != nil || len(l) != 1 {
		t.Fatalf("%q: %v", text, err)
	}
	return l[0]
}

func all(t *testing.T, texts ...string) []api.Sexp {
	t.Helper()
	var l []api.Sexp
	for _, text := range texts {
		l = append(l, one(t, text))
	}
	return l
}

// want asks for an error.
func (b *bench) want(what string, got, want api.Errno) {
	b.Helper()
	if got != want {
		b.Fatalf("%s: %v, not %v", what, got, want)
	}
}

func (b *bench) use(engine int) *bench {
	b.Helper()
	b.want("P17.2: Engine", b.Engine(engine), api.OK)
	b.engine = engine
	return b
}

// id reads a text beside the session.
func (b *bench) id(text string) int {
	b.Helper()
	id, e := b.scope.Term(one(b.T, text))
	b.want(text, e, api.OK)
	return id
}

func (b *bench) assert(texts ...string) *bench {
	b.Helper()
	for _, text := range texts {
		b.want("P17.1: Assert "+text, b.Assert(one(b.T, text)), api.OK)
		inner := &b.frames[len(b.frames)-1]
		*inner = append(*inner, b.id(text))
	}
	return b
}

func (b *bench) push(n int) {
	b.Helper()
	b.want("P17.1: Push", b.Push(n), api.OK)
	for range n {
		b.frames = append(b.frames, nil)
	}
}

func (b *bench) pop(n int) {
	b.Helper()
	b.want("P17.1: Pop", b.Pop(n), api.OK)
	b.frames = b.frames[:len(b.frames)-n]
}

// truth tells under which assignments a Bool is true, as bits.
func (b *bench) truth(id int) []uint64 {
	if l, ok := b.truths[id]; ok {
		return l
	}
	l := make([]uint64, (len(b.envs)+63)/64)
	for i, env := range b.envs {
		v, _ := eval.Eval(b.terms, id, env)
		l[i/64] |= v.Lo << (i % 64)
	}
	b.truths[id] = l
	return l
}

// ways counts the assignments that make all that is asserted, and these, true.
func (b *bench) ways(ids ...int) int {
	l := make([]uint64, (len(b.envs)+63)/64)
	for i := range b.envs {
		l[i/64] |= 1 << (i % 64)
	}
	for _, id := range append(slices.Concat(b.frames...), ids...) {
		for i, t := range b.truth(id) {
			l[i] &= t
		}
	}
	n := 0
	for _, x := range l {
		n += bits.OnesCount64(x)
	}
	return n
}

// check asks for a verdict, and holds all that is told behind it against the assignments.
func (b *bench) check(assume ...string) (int, api.Errno) {
	b.Helper()
	var ids []int
	for _, text := range assume {
		ids = append(ids, b.id(text))
	}
	v, e := b.Check(all(b.T, assume...))
	ways := b.ways(ids...)
	b.ends[ending(v, e)]++
	switch {
	case v == api.Sat && (e != api.OK || ways == 0), v == api.Unsat && (e != api.OK || ways > 0):
		b.Fatalf("P17.3: Check(%v): %d, %v, with %d assignments", assume, v, e, ways)
	case v == api.Unknown && e == api.OK, v < api.Unknown || v > api.Unsat:
		b.Fatalf("P17.3: Check(%v): %d, %v", assume, v, e)
	}
	b.checkModel(v, assume)
	b.checkCore(v, ids)
	b.checkTrace(v, len(assume))
	b.checkClauses(v, e)
	b.checkStores()
	return v, e
}

// ending tells in one word how a check ended.
func ending(v int, e api.Errno) string {
	switch {
	case v == api.Sat:
		return "sat"
	case v == api.Unsat:
		return "unsat"
	}
	return strconv.Itoa(int(e))
}

// checkModel holds Model and Get against the evaluator.
func (b *bench) checkModel(v int, assume []string) {
	b.Helper()
	m, e := b.Model()
	if v != api.Sat {
		_, f := b.Get(one(b.T, "true"))
		if e != api.ErrSessionModel || f != api.ErrSessionModel || m != nil {
			b.Fatalf("P17.4: a model behind %d: %v, %v, %v", v, m, e, f)
		}
		return
	}
	if e != api.OK || len(m) != len(b.names) {
		b.Fatalf("P17.4: Model: %v, %v", m, e)
	}
	for i, p := range b.names {
		if m[i].Name != p.Name || m[i].V.W != p.Sort || max(p.Sort, 1) < 64 && m[i].V.Lo>>max(p.Sort, 1) != 0 {
			b.Fatalf("P17.4: Model: %v of %v", m[i], p)
		}
		if got, e := b.Get(one(b.T, p.Name)); e != api.OK || got != m[i].V {
			b.Fatalf("P17.4: Get(%s): %v, %v, not %v", p.Name, got, e, m[i].V)
		}
	}
	for _, id := range slices.Concat(b.frames...) {
		if got, e := eval.Eval(b.terms, id, m); e != api.OK || got != bv.Bool(true) {
			b.Fatalf("P17.4: what is asserted is %v, %v under %v", got, e, m)
		}
	}
	for _, text := range assume {
		if got, e := b.Get(one(b.T, text)); e != api.OK || got != bv.Bool(true) {
			b.Fatalf("P17.4: the assumption %s is %v, %v under %v", text, got, e, m)
		}
	}
}

// checkCore holds Core against the assignments.
func (b *bench) checkCore(v int, ids []int) {
	b.Helper()
	core, e := b.Core()
	if v != api.Unsat {
		if e != api.ErrSessionTrace || core != nil {
			b.Fatalf("P17.5: a core behind %d: %v, %v", v, core, e)
		}
		return
	}
	var some []int
	for i, n := range core {
		if n < 0 || n >= len(ids) || i > 0 && core[i-1] >= n {
			b.Fatalf("P17.5: Core of %d assumptions: %v", len(ids), core)
		}
		some = append(some, ids[n])
	}
	if ways := b.ways(some...); e != api.OK || ways > 0 {
		b.Fatalf("P17.5: Core: %v, %v: %d assignments", core, e, ways)
	}
}

// checkTrace asks for a trace just where there must be one.
func (b *bench) checkTrace(v, assumed int) {
	b.Helper()
	bytes, e := b.Trace()
	if b.engine != api.EngineA || v != api.Unsat || assumed > 0 {
		if e != api.ErrSessionTrace || bytes != nil {
			b.Fatalf("P17.5: a trace behind %d with %d assumptions: %d bytes, %v", v, assumed, len(bytes), e)
		}
		return
	}
	b.want("P17.5: Trace", e, api.OK)
	b.want("P17.5: trace.Check", trace.Check(b.Clauses(), bytes), api.OK)
}

// checkClauses holds Clauses and Learned against one another, and against the search.
func (b *bench) checkClauses(v int, e api.Errno) {
	b.Helper()
	l, learned := b.Clauses(), b.Learned()
	b.pending = append(b.pending, learned...)
	if b.engine != api.EngineA {
		if l != nil || learned != nil {
			b.Fatalf("P17.6: EngineB: %v, %v", l, learned)
		}
		return
	}
	if v == api.Unknown && e != api.ErrSatConflicts {
		if l != nil {
			b.Fatalf("P17.6: Clauses behind %v: %v", e, l)
		}
	} else {
		units := len(l) - len(b.frames)
		for _, c := range l[units:] {
			if len(c) != 1 {
				b.Fatalf("P17.6: %v of a frame", c)
			}
		}
		b.checkEmitted(l[:units])
		if got := able(l, nil); got != (b.ways() > 0) {
			b.Fatalf("P17.6: whether the clauses have an assignment: %v", got)
		}
		b.checkLearned()
	}
	if most := api.MaxConflicts; e == api.ErrSatConflicts {
		if n := b.limits.Conflicts; n > 0 && n < most {
			most = n
		}
		if len(learned) != most {
			b.Fatalf("P30.7: ErrSatConflicts behind %d clauses of %d", len(learned), most)
		}
	}
}

// checkEmitted takes up all clauses that were emitted.
func (b *bench) checkEmitted(l [][]int) {
	b.Helper()
	had := len(b.emitted)
	if len(l) < had || !slices.EqualFunc(l[:had], b.emitted, slices.Equal[[]int]) {
		b.Fatalf("P17.6: the clauses that were emitted before aren't told first: %v, %v", l, b.emitted)
	}
	for _, c := range l[had:] {
		b.sets[setOf(c)] = true
		b.words += len(c) + 2
	}
	b.emitted = l
}

// checkLearned takes up what was learned.
func (b *bench) checkLearned() {
	b.Helper()
	for _, c := range b.pending {
		if b.sets[setOf(c)] {
			b.Fatalf("P30.7: %v was emitted or learned before", c)
		}
		b.sets[setOf(c)] = true
		b.words += len(c) + 2
		if able(b.emitted, opposites(c)) {
			b.Fatalf("P30.7: %v isn't entailed by what was emitted", c)
		}
	}
	b.pending = nil
	if got := b.Stores().Words; got != b.words {
		b.Fatalf("P17.7: %d words, not %d", got, b.words)
	}
}

// checkStores holds Stores against the limits, and against what was told ahead.
func (b *bench) checkStores() {
	b.Helper()
	got, ahead, l := b.Stores(), b.stores, b.limits
	b.stores = got
	switch {
	case got.Terms < ahead.Terms, got.Graph < ahead.Graph, got.Words < ahead.Words, got.Vars < ahead.Vars:
		b.Fatalf("P17.7: %v behind %v", got, ahead)
	case l.Terms > 0 && got.Terms > l.Terms, l.Graph > 0 && got.Graph > l.Graph, l.Words > 0 && got.Words > l.Words:
		b.Fatalf("P17.7: %v, with the limits %v", got, l)
	case got.Terms > api.MaxTerms, got.Graph > api.MaxGraph, got.Words > api.MaxArena, got.Vars > api.MaxVars:
		b.Fatalf("P17.7: %v", got)
	}
	for _, c := range b.emitted {
		for _, l := range c {
			if max(l, -l) > got.Vars {
				b.Fatalf("P17.7: %d variables, but %d was emitted", got.Vars, l)
			}
		}
	}
}

// checkCount holds Count against the assignments.
func (b *bench) checkCount() {
	b.Helper()
	if n, e := b.Count(); e != api.OK || n != strconv.Itoa(b.ways()) {
		b.Fatalf("P17.8: Count: %s, %v, not %d", n, e, b.ways())
	}
}

// able tells whether an assignment makes all these clauses, and literals, true.
func able(clauses [][]int, lits []int) bool {
	s := sat.New(api.MaxArena, api.MaxConflicts)
	for _, c := range clauses {
		s.Add(c)
	}
	v, _ := s.Solve(lits)
	return v != api.Unsat
}

func opposites(clause []int) []int {
	l := slices.Clone(clause)
	for i := range l {
		l[i] = -l[i]
	}
	return l
}

// setOf tells a clause's literals, in one spelling whatever their order.
func setOf(clause []int) string {
	text := ""
	for _, l := range slices.Sorted(slices.Values(clause)) {
		text += strconv.Itoa(l) + " "
	}
	return text
}
