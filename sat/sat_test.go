package sat_test

import (
	"math"
	"math/rand"
	"slices"
	"testing"

	"plait/api"
	"plait/sat"
)

// noLiterals: numbers that are none.
var noLiterals = []int{0, api.MaxVars + 1, -api.MaxVars - 1, math.MinInt, math.MinInt + 1, math.MaxInt, 1 << 32, -1 << 32}

func TestOfTheChapter(t *testing.T) {
	b := newBench(t, 2, 100, 10)
	for _, c := range [][]int{{1, 2}, {-1, 2}, {1, -2}} {
		b.add(c)
	}
	if v, e := b.solve(nil); v != api.Sat || e != api.OK || !b.s.Value(1) || !b.s.Value(2) {
		t.Errorf("P13.2: %d, %v", v, e)
	}
	for _, l := range []int{-1, -2} {
		if v, e := b.solve([]int{l}); v != api.Unsat || e != api.OK || !slices.Equal(b.s.Core(), []int{l}) {
			t.Errorf("P13.3: Solve(%d): %d, %v, %v", l, v, e, b.s.Core())
		}
	}
	b.add([]int{-1, -2})
	if v, e := b.solve(nil); v != api.Unsat || e != api.OK || len(b.s.Core()) > 0 {
		t.Errorf("P13.4: %d, %v, %v", v, e, b.s.Core())
	}
}

func TestEmpty(t *testing.T) {
	s := sat.New(10, 10)
	if _, e := s.Trace(); e != api.ErrTraceEnd || s.Value(1) || len(s.Core())+len(s.Learned())+len(s.Clauses())+s.Words() > 0 {
		t.Errorf("P13.3: of a new one: %v", e)
	}
	if v, e := s.Solve(nil); v != api.Sat || e != api.OK || s.Value(1) {
		t.Errorf("P13.2: of no clauses: %d, %v", v, e)
	}
	if v, e := s.Solve([]int{api.MaxVars, -3, 70}); v != api.Sat || e != api.OK || !s.Value(api.MaxVars) || s.Value(3) || !s.Value(70) || s.Value(69) {
		t.Errorf("P13.3: of no clauses: %d, %v", v, e)
	}
	if v, e := s.Solve([]int{3, -70}); v != api.Sat || e != api.OK || !s.Value(3) || s.Value(70) || s.Value(api.MaxVars) {
		t.Errorf("P13.3: a variable of assumptions of a Solve before: %d, %v", v, e)
	}
	if v, e := s.Solve([]int{api.MaxVars, 4, -api.MaxVars, 4}); v != api.Unsat || e != api.OK || !slices.Equal(s.Core(), []int{api.MaxVars, -api.MaxVars}) {
		t.Errorf("P13.3: of no clauses: %d, %v, %v", v, e, s.Core())
	}
}

// The empty clause takes 2 words, as many as there may be.
func TestEmptyClause(t *testing.T) {
	s := filled(t, [][]int{nil}, 2, 1)
	for _, assume := range [][]int{nil, {1}, {1, -1}} {
		if v, e := s.Solve(assume); v != api.Unsat || e != api.OK || len(s.Core()) > 0 || len(s.Learned()) > 0 || s.Words() != 2 {
			t.Errorf("P13.2: Solve(%v): %d, %v, %v", assume, v, e, s.Core())
		}
		checkTrace(t, s)
	}
	if e := s.Add(nil); e != api.ErrStoreMany {
		t.Errorf("P13.1: %v", e)
	}
}

func TestAddErrors(t *testing.T) {
	s := sat.New(9, 10)
	for _, no := range noLiterals {
		for _, c := range [][]int{{no}, {1, no}, {1, -1, no}, {no, 1, -1}, {1, 2, 3, 4, 5, 6, 7, 8, no}} {
			if e := s.Add(c); e != api.ErrStoreLit {
				t.Errorf("P13.1: Add(%v): %v", c, e)
			}
		}
	}
	for _, c := range []struct {
		clause []int
		e      api.Errno
	}{
		{[]int{1, -1}, api.ErrStoreBoth},
		{[]int{1, 2, 3, 4, 5, 6, 7, 8, -2}, api.ErrStoreBoth},
		{[]int{1, 2, 3, 4, 5, 6, 7, 8}, api.ErrStoreMany},
		{[]int{1, 2, -api.MaxVars, 2, 1, 2, 1, 2, 1}, api.OK},
		{[]int{1, 2, 3}, api.ErrStoreMany},
		{[]int{-1, api.MaxVars}, api.OK},
		{nil, api.ErrStoreMany},
	} {
		if e := s.Add(c.clause); e != c.e {
			t.Errorf("P13.1: Add(%v): %v, not %v", c.clause, e, c.e)
		}
	}
	if got := s.Clauses(); !slices.EqualFunc(got, [][]int{{1, 2, -api.MaxVars}, {-1, api.MaxVars}}, slices.Equal[[]int]) || s.Words() != 9 {
		t.Errorf("P13.1: %v, %d words", got, s.Words())
	}
}

func TestNewBounds(t *testing.T) {
	for _, words := range []int{math.MinInt, -1, 0, 1, 2} {
		s := sat.New(words, 1)
		want := api.ErrStoreMany
		if words == 2 {
			want = api.OK
		}
		if e := s.Add(nil); e != want {
			t.Errorf("P13.1: New(%d): %v", words, e)
		}
	}
	for _, words := range []int{api.MaxArena - 1, api.MaxArena, api.MaxArena + 1, math.MaxInt} {
		s := sat.New(words, 1)
		wide := make([]int, 1<<15-2)
		for i := range wide {
			wide[i] = i + 1
		}
		for range api.MaxArena >> 15 {
			s.Add(wide)
		}
		if want := min(words, api.MaxArena) >> 15 << 15; s.Words() != want {
			t.Errorf("P13.1: New(%d): %d words, not %d", words, s.Words(), want)
		}
	}
	hard := pigeons(8)
	for _, c := range []struct{ conflicts, want int }{
		{math.MinInt, 1}, {-1, 1}, {0, 1}, {1, 1}, {2, 2}, {7, 7},
		{api.MaxConflicts - 1, api.MaxConflicts - 1}, {api.MaxConflicts, api.MaxConflicts}, {api.MaxConflicts + 1, api.MaxConflicts}, {math.MaxInt, api.MaxConflicts},
	} {
		s := filled(t, hard, api.MaxArena, c.conflicts)
		if v, e := s.Solve(nil); v != api.Unknown || e != api.ErrSatConflicts || len(s.Learned()) != c.want {
			t.Errorf("P13.2: %d conflicts: %d, %v, %d learned", c.conflicts, v, e, len(s.Learned()))
		}
	}
}

// state: all that can be asked of a solver.
type state struct {
	core           []int
	bytes          []byte
	e              api.Errno
	learned, added [][]int
	words          int
	values         []bool
}

func stateOf(s *sat.Solver, n int) state {
	l := state{core: s.Core(), learned: s.Learned(), added: s.Clauses(), words: s.Words()}
	l.bytes, l.e = s.Trace()
	for v := range n + 1 {
		l.values = append(l.values, s.Value(v))
	}
	return l
}

func sameState(a, b state) bool {
	return slices.Equal(a.core, b.core) && slices.Equal(a.bytes, b.bytes) && a.e == b.e && a.words == b.words && slices.Equal(a.values, b.values) &&
		slices.EqualFunc(a.learned, b.learned, slices.Equal[[]int]) && slices.EqualFunc(a.added, b.added, slices.Equal[[]int])
}

// What is refused changes nothing, behind whichever verdict.
func TestRefusedChangesNothing(t *testing.T) {
	for _, c := range []struct {
		clauses [][]int
		assume  []int
		want    int
	}{
		{[][]int{{1, 2}, {-1, 2}, {1, -2}}, []int{3}, api.Sat},
		{[][]int{{1, 2}, {-1, 2}, {1, -2}}, []int{-1}, api.Unsat},
		{[][]int{{1, 2}, {-1, 2}, {1, -2}, {-1, -2}}, nil, api.Unsat},
		{pigeons(4), nil, api.Unknown},
	} {
		s := filled(t, c.clauses, 230, 3)
		if v, _ := s.Solve(c.assume); v != c.want {
			t.Fatalf("P13.2: %v: %d, not %d", c.clauses, v, c.want)
		}
		was := stateOf(s, 20)
		for _, no := range noLiterals {
			for _, assume := range [][]int{{no}, {1, no}, {1, -1, no}, {no, 1}} {
				if v, e := s.Solve(assume); v != api.Unknown || e != api.ErrSatLit {
					t.Errorf("P13.2: Solve(%v): %d, %v", assume, v, e)
				}
			}
			s.Add([]int{1, no})
		}
		s.Add([]int{1, -1})
		s.Add(make([]int, 300))
		wide := make([]int, 300)
		for i := range wide {
			wide[i] = i + 1
		}
		s.Add(wide)
		if now := stateOf(s, 20); !sameState(was, now) {
			t.Errorf("rule 4: %v, not %v", now, was)
		}
	}
}

// What a Solve told stays told, up to the next one; of a trace the numbers are those that the clauses have now.
func TestAddBehindSolve(t *testing.T) {
	s := filled(t, [][]int{{1, 2}, {-1, 2}, {1, -2}}, 1000, 100)
	s.Solve([]int{3})
	s.Add([]int{-3, 4})
	if !s.Value(1) || !s.Value(2) || !s.Value(3) || s.Value(4) {
		t.Errorf("P13.3: values have changed")
	}
	if v, _ := s.Solve([]int{3}); v != api.Sat || !s.Value(4) {
		t.Errorf("P13.2: what was added behind a Solve doesn't count: %d", v)
	}
	s.Solve([]int{3, -4, 5})
	s.Add([]int{4, 5})
	if !slices.Equal(s.Core(), []int{3, -4}) {
		t.Errorf("P13.3: %v", s.Core())
	}
	s.Add([]int{-1, -2})
	if _, e := s.Trace(); e != api.ErrTraceEnd {
		t.Errorf("P13.4: %v", e)
	}
	if v, _ := s.Solve(nil); v != api.Unsat {
		t.Errorf("P13.2: %d", v)
	}
	first := checkTrace(t, s)
	learned := s.Learned()
	s.Add([]int{6, 7})
	if second := checkTrace(t, s); len(first) != len(second) || len(learned) != len(s.Learned()) {
		t.Errorf("P13.4: %d bytes, %d bytes", len(first), len(second))
	}
}

func TestMemory(t *testing.T) {
	backing := []int{1, 2, -1, 2, 1, -2, 9, 9}
	s := sat.New(1000, 100)
	s.Add(backing[:2])
	s.Add(backing[2:4])
	s.Add(backing[4:6])
	assume := backing[6:7]
	s.Solve(assume)
	s.Solve([]int{5, -1, 6})
	if !slices.Equal(backing, []int{1, 2, -1, 2, 1, -2, 9, 9}) {
		t.Errorf("rule 3: what was handed in is changed: %v", backing)
	}
	for i := range backing {
		backing[i] = 77
	}
	was := stateOf(s, 10)
	was.core = []int{-1}
	spoil := func(l []int) {
		l = l[:cap(l)]
		for i := range l {
			l[i] = 88
		}
	}
	spoil(s.Core())
	lists := append(s.Clauses(), s.Learned()...)
	for i, l := range lists {
		spoil(l)
		for _, other := range lists[i+1:] {
			if slices.Contains(other, 88) {
				t.Errorf("rule 3: lists share memory: %v", lists)
			}
		}
	}
	if now := stateOf(s, 10); !sameState(was, now) || !slices.EqualFunc(now.added, [][]int{{1, 2}, {-1, 2}, {1, -2}}, slices.Equal[[]int]) {
		t.Errorf("rule 3: %v, not %v", now, was)
	}
	s.Add([]int{-1, -2})
	s.Solve(nil)
	b := checkTrace(t, s)
	for i := range b {
		b[i] = 0xEE
	}
	checkTrace(t, s)
}

// Two solvers that are told the same tell the same, whatever a third one between them is told.
func TestSameAgain(t *testing.T) {
	r := rand.New(rand.NewSource(131))
	for range 60 {
		n := 10 + r.Intn(30)
		a, b, c := sat.New(5000, 200), sat.New(5000, 200), sat.New(5000, 200)
		for range 5 {
			for range n {
				clause := someClause(r, n, 3)
				a.Add(clause)
				c.Add(someClause(r, n, 3))
				b.Add(clause)
			}
			assume := someLits(r, n, r.Intn(4))
			v, e := a.Solve(assume)
			c.Solve(assume[:len(assume)/2])
			if w, f := b.Solve(assume); w != v || f != e || !sameState(stateOf(a, n), stateOf(b, n)) {
				t.Fatalf("rule 8: %d, %v; %d, %v", v, e, w, f)
			}
		}
	}
}
