package sat_test

import (
	"slices"
	"testing"

	"plait/api"
	"plait/sat"
)

// ladder: each variable from 1 to n - 1 entails the next one.
func ladder(n int) [][]int {
	var clauses [][]int
	for v := 1; v < n; v++ {
		clauses = append(clauses, []int{-v, v + 1})
	}
	return clauses
}

// As long a row of consequences as the arena holds, from an assumption, from a clause, and in a conflict.
func TestLongRow(t *testing.T) {
	const n = api.MaxVars - 100
	s := filled(t, ladder(n), api.MaxArena, 10)
	if v, e := s.Solve([]int{1}); v != api.Sat || e != api.OK || !s.Value(n) {
		t.Errorf("P13.2: %d, %v", v, e)
	}
	if v, e := s.Solve([]int{5, 1, 7, -n}); v != api.Unsat || e != api.OK || !slices.Contains(s.Core(), -n) || len(s.Core()) != 2 {
		t.Errorf("P13.3: %d, %v, %v", v, e, s.Core())
	}
	s.Add([]int{-n, -n + 1})
	v, e := s.Solve(nil)
	certify(t, s, nil, v)
	if v != api.Sat || e != api.OK || s.Value(1) {
		t.Errorf("P13.2: %d, %v", v, e)
	}
	s.Add([]int{1})
	if v, e := s.Solve(nil); v != api.Unsat || e != api.OK {
		t.Errorf("P13.2: %d, %v", v, e)
	}
	checkTrace(t, s)
}

// Literals that are false because of one another, down a row of as many levels and steps as there can be, are all spared but one.
func TestLongLesson(t *testing.T) {
	const n = 40000
	clauses := ladder(n)
	// Whatever n is, its row leads to a clash with the last two variables.
	clauses = append(clauses, []int{-n, -n - 1, n + 2}, []int{-1, -n, -n - 1, -n - 2}, []int{n + 1, n + 3}, []int{n + 1, -n - 3})
	s := filled(t, clauses, api.MaxArena, 100)
	v, e := s.Solve([]int{2, n / 2})
	if v != api.Sat || e != api.OK {
		t.Errorf("P13.2: %d, %v", v, e)
	}
	certify(t, s, []int{2, n / 2}, v)
	v, e = s.Solve([]int{1})
	if v != api.Unsat || e != api.OK || !slices.Equal(s.Core(), []int{1}) {
		t.Errorf("P13.3: %d, %v, %v", v, e, s.Core())
	}
	s.Add([]int{1})
	if v, e := s.Solve(nil); v != api.Unsat || e != api.OK {
		t.Errorf("P13.2: %d, %v", v, e)
	}
	checkTrace(t, s)
}

// One clause of all variables, and all literals assumed: as many levels as there can be.
func TestWide(t *testing.T) {
	wide := make([]int, api.MaxVars)
	for i := range wide {
		wide[i] = i + 1
	}
	s := filled(t, [][]int{wide}, api.MaxArena, 10)
	v, _ := s.Solve(nil)
	certify(t, s, nil, v)
	turned := make([]int, len(wide))
	for i, l := range wide {
		turned[i] = -l
	}
	if v, e := s.Solve(turned); v != api.Unsat || e != api.OK || !slices.Equal(s.Core(), turned) {
		t.Errorf("P13.3: %d, %v, a core of %d", v, e, len(s.Core()))
	}
	rest := slices.Concat(turned[:100], turned[101:])
	if v, e := s.Solve(slices.Concat(rest, rest)); v != api.Sat || e != api.OK || !s.Value(101) {
		t.Errorf("P13.3: %d, %v", v, e)
	}
	certify(t, s, rest, api.Sat)
}

// rows: clauses in which each variable is a row of so many ones that are all equal: what is set at one end goes through the whole row.
func rows(clauses [][]int, n, long int) [][]int {
	var all [][]int
	for v := range n {
		for i := range long - 1 {
			a := v*long + i + 1
			all = append(all, []int{-a, a + 1}, []int{a, -a - 1})
		}
	}
	for i, c := range clauses {
		var far []int
		for _, l := range c {
			// By turns the one and the other end.
			at := (max(l, -l)-1)*long + 1 + (i%2)*(long-1)
			if l < 0 {
				at = -at
			}
			far = append(far, at)
		}
		all = append(all, far)
	}
	return all
}

// rowsTrace tells what Trace tells of pigeons in rows.
func rowsTrace(t *testing.T, long int) ([]byte, api.Errno) {
	t.Helper()
	s := filled(t, rows(pigeons(6), 42, long), api.MaxArena, api.MaxConflicts)
	if v, e := s.Solve(nil); v != api.Unsat || e != api.OK {
		t.Fatalf("P13.2: rows of %d: %d, %v", long, v, e)
	}
	b, e := s.Trace()
	if e == api.OK {
		checkTrace(t, s)
	}
	return b, e
}

// A trace is refused where it would be too long, there alone: each variable that the rows are longer takes as many bytes more.
func TestLongTrace(t *testing.T) {
	ten, _ := rowsTrace(t, 10)
	eleven, _ := rowsTrace(t, 11)
	long := 10 + (api.MaxTrace-len(ten))/(len(eleven)-len(ten))
	if b, e := rowsTrace(t, long); e != api.OK || len(b) < api.MaxTrace*9/10 {
		t.Errorf("P13.4: rows of %d: %d bytes, %v", long, len(b), e)
	}
	if b, e := rowsTrace(t, long+1); e != api.ErrTraceLong || len(b) > 0 {
		t.Errorf("P13.4: rows of %d: %d bytes, %v", long+1, len(b), e)
	}
}

// Many variables that have no clause with one another, and many Solves.
func TestManySolves(t *testing.T) {
	s := sat.New(api.MaxArena, api.MaxConflicts)
	for v := 1; v < api.MaxVars; v += 2 {
		s.Add([]int{v, v + 1})
	}
	for i := range 50 {
		v := 1 + i*1200
		assume := []int{-v, -v - 300}
		verdict, e := s.Solve(assume)
		if verdict != api.Sat || e != api.OK || s.Value(v) || !s.Value(v+1) {
			t.Fatalf("P13.2: Solve(%v): %d, %v", assume, verdict, e)
		}
	}
}
