package sat_test

import (
	"math/rand"
	"slices"
	"testing"

	"plait/api"
	"plait/sat"
)

// All sets of at most four clauses over two variables, with all short lists of assumptions: there are at most 3^2 clauses to learn.
func TestAllSmall(t *testing.T) {
	all := allClauses(2)
	var lists [][]int
	for a := -2; a <= 2; a++ {
		for b := -2; b <= 2; b++ {
			lists = append(lists, slices.DeleteFunc([]int{a, b}, func(l int) bool { return l == 0 }))
		}
	}
	var go4 func(from int, chosen [][]int)
	go4 = func(from int, chosen [][]int) {
		b := newBench(t, 2, api.MaxArena, 10)
		for _, c := range chosen {
			b.add(c)
		}
		for _, assume := range lists {
			if v, e := b.solve(assume); v == api.Unknown || e != api.OK {
				t.Fatalf("P13.6: %v, Solve(%v): %d, %v", chosen, assume, v, e)
			}
		}
		if len(chosen) == 4 {
			return
		}
		for i := from; i < len(all); i++ {
			go4(i+1, append(slices.Clone(chosen), all[i]))
		}
	}
	go4(0, nil)
}

// With 3^n below the conflicts, and words enough, each verdict is told.
func TestNeverTooFew(t *testing.T) {
	r := rand.New(rand.NewSource(132))
	for range 1500 {
		n := 1 + r.Intn(4)
		conflicts := 2
		for range n {
			conflicts *= 3
		}
		b := newBench(t, n, api.MaxArena, conflicts/2+1)
		for range 1 + r.Intn(3) {
			for range 1 + r.Intn(3*n) {
				b.add(someClause(r, n, 1+r.Intn(n)))
			}
			if v, e := b.solve(someLits(r, n, r.Intn(3))); v == api.Unknown || e != api.OK {
				t.Fatalf("P13.6: %v: %d, %v", b.added, v, e)
			}
		}
	}
}

// play adds and solves in turns, and tells how the Solves ended. One variable stands in assumptions alone.
func play(t *testing.T, seed int64, rounds, most int, limits func(r *rand.Rand) (int, int)) map[string]int {
	t.Helper()
	r := rand.New(rand.NewSource(seed))
	ends := map[string]int{}
	for range rounds {
		n := 3 + r.Intn(most-2)
		words, conflicts := limits(r)
		b := newBench(t, n, words, conflicts)
		b.ends = ends
		width := 2 + r.Intn(2)
		in := n - 1
		for range 2 + r.Intn(6) {
			for range r.Intn(2 * n) {
				if r.Intn(8) == 0 {
					b.add(someLits(r, in, 1+r.Intn(5)))
				} else {
					b.add(someClause(r, in, min(in, width+r.Intn(2))))
				}
			}
			lists := [][]int{someLits(r, n, r.Intn(4)), someLits(r, n, 2+r.Intn(n)), nil}
			for range 6 {
				b.solve(lists[r.Intn(len(lists))])
			}
		}
	}
	return ends
}

func TestSome(t *testing.T) {
	ends := play(t, 133, 700, 10, func(r *rand.Rand) (int, int) { return api.MaxArena, api.MaxConflicts })
	if ends["sat"] < 2000 || ends["unsat"] < 1000 || ends["core"] < 2000 || ends["many"]+ends["conflicts"] > 0 {
		t.Errorf("P13.2: %v", ends)
	}
}

// Few words, or few conflicts: verdicts that were told stay, whatever was refused between.
func TestSomeWithin(t *testing.T) {
	ends := play(t, 134, 600, 10, func(r *rand.Rand) (int, int) { return 20 + r.Intn(300), api.MaxConflicts })
	if ends["sat"] < 2000 || ends["unsat"] < 500 || ends["core"] < 2000 || ends["many"] < 100 {
		t.Errorf("P13.2: %v", ends)
	}
	ends = play(t, 135, 600, 10, func(r *rand.Rand) (int, int) { return api.MaxArena, 1 + r.Intn(2) })
	if ends["sat"] < 2000 || ends["unsat"] < 500 || ends["core"] < 2000 || ends["conflicts"] < 50 {
		t.Errorf("P13.2: %v", ends)
	}
}

// Around the greatest number of clauses that may be learned: with one more there is a verdict, with one less there is none.
func TestConflictsJust(t *testing.T) {
	clauses := pigeons(5)
	whole := filled(t, clauses, api.MaxArena, api.MaxConflicts)
	if v, e := whole.Solve(nil); v != api.Unsat || e != api.OK {
		t.Fatalf("P13.2: %d, %v", v, e)
	}
	many, words := len(whole.Learned()), whole.Words()
	checkTrace(t, whole)
	for lack := range 4 {
		s := filled(t, clauses, words, many-lack)
		v, e := s.Solve(nil)
		if lack == 0 && (v != api.Unsat || e != api.OK) || lack > 0 && (v != api.Unknown || e != api.ErrSatConflicts || len(s.Learned()) != many-lack) {
			t.Errorf("P13.2: %d conflicts of %d: %d, %v, %d learned", many-lack, many, v, e, len(s.Learned()))
		}
		if lack > 0 {
			again(t, s, api.ErrSatConflicts)
		}
	}
	for _, lack := range []int{1, 2, 10, 100} {
		s := filled(t, clauses, words-lack, many)
		if v, e := s.Solve(nil); v != api.Unknown || e != api.ErrStoreMany || s.Words() > words-lack || len(s.Learned()) >= many {
			t.Errorf("P13.2: %d words of %d: %d, %v, %d learned", words-lack, words, v, e, len(s.Learned()))
		}
	}
}

// again solves until there is a verdict: what was learned counts.
func again(t *testing.T, s *sat.Solver, want api.Errno) {
	t.Helper()
	sets := map[string]bool{}
	for _, c := range append(s.Clauses(), s.Learned()...) {
		sets[setOf(c)] = true
	}
	for range 100 {
		v, e := s.Solve(nil)
		for _, c := range s.Learned() {
			if sets[setOf(c)] {
				t.Fatalf("P13.5: %v is learned again", c)
			}
			sets[setOf(c)] = true
		}
		if v == api.Unsat && e == api.OK {
			checkTrace(t, s)
			return
		}
		if v != api.Unknown || e != want {
			t.Fatalf("P13.2: %d, %v", v, e)
		}
	}
	t.Errorf("P13.5: what is learned is forgotten")
}

// A conflict that hangs on no choice and no assumption: nothing is learned, in no words.
func TestNothingToLearn(t *testing.T) {
	for _, clauses := range [][][]int{
		{{1}, {-1}},
		{{1}, {-1, 2}, {-2, 3}, {-3, -1}},
		{{-1, -2, -3}, {1}, {2}, {3}},
		{{3, 1}, {-3}, {-1, 2}, {-2, 3}},
	} {
		words := 0
		for _, c := range clauses {
			words += len(c) + 2
		}
		for _, assume := range [][]int{nil, {3}, {-3, 2}, {5, -5}} {
			s := filled(t, clauses, words, 1)
			if v, e := s.Solve(assume); v != api.Unsat || e != api.OK || len(s.Learned())+len(s.Core()) > 0 {
				t.Errorf("P13.5: %v, Solve(%v): %d, %v, learned %v, core %v", clauses, assume, v, e, s.Learned(), s.Core())
			}
			checkTrace(t, s)
		}
	}
}

// Clauses that are added when others have fixed their variables already.
func TestAddLate(t *testing.T) {
	b := newBench(t, 6, api.MaxArena, 100)
	for _, c := range [][]int{{1}, {-1, 2}} {
		b.add(c)
	}
	b.solve(nil)
	for _, c := range [][]int{{1, 3}, {-1, 3, 4}, {-2, -1, 5}, {-2, 3, 4, -1}, {-3, -5}, {6, -1, -2, 3}, {1, 2, -6}} {
		b.add(c)
		b.solve(nil)
		b.solve([]int{-4})
		b.solve([]int{4, -6})
	}
	b.add([]int{-6, -5, -4})
	if v, _ := b.solve(nil); v != api.Unsat {
		t.Errorf("P13.2: %d", v)
	}
	b.add([]int{-1, -2})
	b.add([]int{3})
	b.solve([]int{3})
}

func TestCores(t *testing.T) {
	b := newBench(t, 8, api.MaxArena, 100)
	for _, c := range [][]int{{-1, 2}, {-2, 3}, {-4, -5}, {8}, {-3, -4, 5}} {
		b.add(c)
	}
	for _, c := range []struct{ assume, core []int }{
		{[]int{7, 1, 6, -2}, []int{1, -2}},
		{[]int{-2, 7, 1, 1, -2}, []int{-2, 1}},
		{[]int{6, -6, 1}, []int{6, -6}},
		{[]int{6, -8}, []int{-8}},
		{[]int{-8, 6}, []int{-8}},
		{[]int{7, 4, 6, 1}, []int{4, 1}},
		{[]int{7, 1, 6, 4}, []int{1, 4}},
		{[]int{3, 4}, []int{3, 4}},
		{[]int{4, 5}, []int{4, 5}},
	} {
		if v, e := b.solve(c.assume); v != api.Unsat || e != api.OK || !slices.Equal(b.s.Core(), c.core) || len(b.s.Learned()) > 0 {
			t.Errorf("P13.3: Solve(%v): %d, %v, %v, not %v", c.assume, v, e, b.s.Core(), c.core)
		}
	}
}

// Too many variables for all assignments: each answer is certified by what is told with it.
func TestGreater(t *testing.T) {
	r := rand.New(rand.NewSource(135))
	ends := map[int]int{}
	for range 60 {
		n := 40 + r.Intn(50)
		s := sat.New(api.MaxArena, api.MaxConflicts)
		sets := map[string]bool{}
		add := func(clause []int) {
			s.Add(clause)
			sets[setOf(clause)] = true
		}
		for range n * 38 / 10 {
			add(someClause(r, n, 3))
		}
		for range 6 {
			for range n / 10 {
				add(someClause(r, n, 3))
			}
			assume := someLits(r, n, r.Intn(6))
			v, _ := s.Solve(assume)
			certify(t, s, assume, v)
			ends[v]++
			newAndEntailed(t, s, sets)
		}
	}
	if ends[api.Sat] < 60 || ends[api.Unsat] < 60 || ends[api.Unknown] > 0 {
		t.Errorf("P13.2: %v", ends)
	}
}

// newAndEntailed holds what was learned against all clauses of before, and, of some, tries it turned.
func newAndEntailed(t *testing.T, s *sat.Solver, sets map[string]bool) {
	t.Helper()
	for i, c := range s.Learned() {
		if sets[setOf(c)] {
			t.Fatalf("P13.5: %v is learned, and was there", c)
		}
		sets[setOf(c)] = true
		if i%20 > 0 {
			continue
		}
		turned := slices.Clone(c)
		for j := range turned {
			turned[j] = -turned[j]
		}
		fresh := filled(t, s.Clauses(), api.MaxArena, api.MaxConflicts)
		if v, e := fresh.Solve(turned); v != api.Unsat {
			t.Fatalf("P13.5: %v isn't entailed: %d, %v", c, v, e)
		}
	}
}

// Which pigeon sits where is assumed; one is left out of the assumptions.
func TestPigeons(t *testing.T) {
	for n := 1; n <= 6; n++ {
		s := filled(t, pigeons(n), api.MaxArena, api.MaxConflicts)
		var assume []int
		for p := range n {
			assume = append(assume, 1+p*n+p)
		}
		for _, l := range [][]int{assume, assume[:n/2], nil} {
			v, e := s.Solve(l)
			if v != api.Unsat || e != api.OK {
				t.Fatalf("P13.2: %d pigeons, Solve(%v): %d, %v", n+1, l, v, e)
			}
			certify(t, s, l, v)
		}
		checkTrace(t, s)
	}
}
