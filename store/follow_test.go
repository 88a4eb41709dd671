package store_test

import (
	"math"
	"math/rand"
	"slices"
	"testing"

	"plait/api"
	"plait/store"
)

func TestFollowOfTheChapter(t *testing.T) {
	s := filled(t, [][]int{{1, 2}, {-1, 3}, {-2, -3}})
	for _, c := range []struct {
		lits, told []int
		end        int
	}{
		{[]int{1}, []int{1, 3, -2}, -1},
		{[]int{1, 2}, []int{1, 3, -2}, -2},
		{[]int{1, 1, 3, -2}, []int{1, 3, -2}, -1},
		{[]int{}, nil, -1},
		{nil, nil, -1},
		{[]int{7}, []int{7}, -1},
		{[]int{api.MaxVars, -api.MaxVars}, []int{api.MaxVars}, -2},
		{[]int{-api.MaxVars, 1}, []int{-api.MaxVars, 1, 3, -2}, -1},
	} {
		told, end := s.Follow(c.lits)
		if !slices.Equal(told, c.told) || end != c.end {
			t.Errorf("P11.2: Follow(%v): %v, %d, not %v, %d", c.lits, told, end, c.told, c.end)
		}
	}
}

func TestFollowNoLiteral(t *testing.T) {
	clauses := [][]int{{1}, {-1, 2}, {-3, 4}}
	s := filled(t, clauses)
	for _, no := range []int{0, api.MaxVars + 1, -api.MaxVars - 1, math.MinInt, math.MinInt + 1, math.MaxInt} {
		if told, end := s.Follow([]int{no}); !slices.Equal(told, []int{1, 2}) || end != -2 {
			t.Errorf("P11.2: Follow(%d): %v, %d", no, told, end)
		}
		if told, end := s.Follow([]int{3, no, 5}); !slices.Equal(told, []int{1, 2, 3, 4}) || end != -2 {
			t.Errorf("P11.2: Follow(3, %d, 5): %v, %d", no, told, end)
		}
	}
	if told, end := store.New(1).Follow([]int{0}); len(told) != 0 || end != -2 {
		t.Errorf("P11.2: of no clauses: %v, %d", told, end)
	}
	if told, end := store.New(1).Follow([]int{5, -6, 5}); !slices.Equal(told, []int{5, -6}) || end != -1 {
		t.Errorf("P11.2: of no clauses: %v, %d", told, end)
	}
}

// A clause without anything left is told ahead of literals that can't be set, and these ahead of what would stand behind them.
func TestFollowEnds(t *testing.T) {
	for _, c := range []struct {
		clauses [][]int
		lits    []int
		told    []int
		ends    []int
	}{
		{[][]int{nil}, []int{0}, nil, []int{0}},
		{[][]int{{1, 2}, nil}, nil, nil, []int{1}},
		{[][]int{{1}, {-1}}, []int{0}, []int{1}, []int{1}},
		{[][]int{{1}, {-1, 2}, {-2}}, []int{3}, nil, []int{0, 1, 2}},
		{[][]int{{-1, 2}, {-1, -2}}, []int{3, 1, 0}, nil, []int{0, 1}},
		{[][]int{{-1, 2}, {-1, -2}}, []int{3, 0, 1}, []int{3}, []int{-2}},
		{[][]int{{-1, 2}, {-1, -2}}, []int{-1, 1}, []int{-1}, []int{-2}},
		{[][]int{{2}, {-1, -2}}, []int{1}, []int{2, -1}, []int{-2}},
	} {
		s := filled(t, c.clauses)
		told, end := check(t, s, c.clauses, c.lits)
		if !slices.Contains(c.ends, end) || c.told != nil && !slices.Equal(told, c.told) {
			t.Errorf("P11.2: %v, Follow(%v): %v, %d", c.clauses, c.lits, told, end)
		}
	}
}

func TestFollowAllSmall(t *testing.T) {
	all := allClauses(2)
	var lists [][]int
	for a := -2; a <= 2; a++ {
		for b := -2; b <= 2; b++ {
			lists = append(lists, []int{a, b})
		}
	}
	for _, a := range all {
		for _, b := range all {
			for _, c := range all {
				clauses := [][]int{a, b, c}
				s := filled(t, clauses)
				for _, lits := range lists {
					check(t, s, clauses, lits)
				}
			}
		}
	}
}

func TestFollowSome(t *testing.T) {
	r := rand.New(rand.NewSource(11))
	ends := map[int]int{}
	for range 3000 {
		n := 3 + r.Intn(20)
		widest := min(n, 2+r.Intn(9))
		clauses := someClauses(r, r.Intn(4*n), n, min(widest, 1+r.Intn(3)), widest)
		s := filled(t, clauses)
		for range 6 {
			_, end := check(t, s, clauses, someLits(r, n))
			ends[min(end, 0)]++
		}
	}
	for end := -2; end <= 0; end++ {
		if ends[end] < 1000 {
			t.Errorf("P11.2: too few answers that end with %d: %v", end, ends)
		}
	}
}

// What is told with -1 is one set, and how it ends (but for which clause) is one, in whichever order clauses and literals lie.
func TestFollowOrder(t *testing.T) {
	r := rand.New(rand.NewSource(12))
	for range 1500 {
		n := 3 + r.Intn(12)
		clauses := someClauses(r, r.Intn(3*n), n, 1, min(n, 5))
		lits := someLits(r, n)
		told, end := filled(t, clauses).Follow(lits)
		for range 4 {
			mixed := mix(r, clauses)
			again, other := check(t, filled(t, mixed), mixed, lits)
			if min(end, 0) != min(other, 0) {
				t.Fatalf("P11.3: %v, Follow(%v): %d; %v: %d", clauses, lits, end, mixed, other)
			}
			if end < 0 && !slices.Equal(sorted(told), sorted(again)) {
				t.Fatalf("P11.3: %v, Follow(%v): %v; %v: %v", clauses, lits, told, mixed, again)
			}
		}
	}
}

func TestFollowOrderOfLiterals(t *testing.T) {
	r := rand.New(rand.NewSource(13))
	for range 1500 {
		n := 3 + r.Intn(12)
		clauses := someClauses(r, r.Intn(3*n), n, 1, min(n, 5))
		s := filled(t, clauses)
		lits := someClause(r, n, r.Intn(n))
		told, end := s.Follow(lits)
		r.Shuffle(len(lits), func(i, j int) { lits[i], lits[j] = lits[j], lits[i] })
		again, other := s.Follow(lits)
		if (end == -1) != (other == -1) || end == -1 && !slices.Equal(sorted(told), sorted(again)) {
			t.Fatalf("P11.3: %v, Follow(%v): %v, %d; %v, %d", clauses, lits, told, end, again, other)
		}
	}
}

func mix(r *rand.Rand, clauses [][]int) [][]int {
	mixed := make([][]int, len(clauses))
	for i, at := range r.Perm(len(clauses)) {
		c := slices.Clone(clauses[at])
		r.Shuffle(len(c), func(i, j int) { c[i], c[j] = c[j], c[i] })
		mixed[i] = c
	}
	return mixed
}

func sorted(l []int) []int {
	l = slices.Clone(l)
	slices.Sort(l)
	return l
}

// A Follow leaves nothing behind: one store is asked between all Adds, the other one only at the end.
func TestFollowLeavesNothing(t *testing.T) {
	r := rand.New(rand.NewSource(14))
	for range 400 {
		n := 4 + r.Intn(12)
		clauses := someClauses(r, 2*n, n, 1, min(n, 6))
		asked := store.New(api.MaxArena)
		for i, c := range clauses {
			asked.Add(c)
			for range r.Intn(4) {
				check(t, asked, clauses[:i+1], someLits(r, n))
			}
		}
		fresh := filled(t, clauses)
		if asked.Words() != fresh.Words() || asked.Len() != fresh.Len() {
			t.Fatalf("P11.1: %d words, %d words", asked.Words(), fresh.Words())
		}
		for i, c := range clauses {
			if got, e := asked.Clause(i); e != api.OK || !slices.Equal(got, c) || !asked.Has(c) {
				t.Fatalf("P11.1: Clause(%d): %v, %v, not %v", i, got, e, c)
			}
		}
		for range 5 {
			lits := someLits(r, n)
			told, end := asked.Follow(lits)
			again, other := fresh.Follow(lits)
			if !slices.Equal(told, again) || end != other {
				t.Fatalf("P11.2: %v, Follow(%v): %v, %d; of a fresh one: %v, %d", clauses, lits, told, end, again, other)
			}
		}
	}
}

func TestFollowMemory(t *testing.T) {
	s := filled(t, [][]int{{1}, {-1, 2}, {-2, -3, 4}})
	backing := []int{3, 5, 6, 7}
	lits := backing[:1]
	told, _ := s.Follow(lits)
	want := slices.Clone(told)
	told = told[:cap(told)]
	for i := range told {
		told[i] = 9
	}
	if !slices.Equal(backing, []int{3, 5, 6, 7}) {
		t.Errorf("rule 3: what was handed in is changed: %v", backing)
	}
	if again, end := s.Follow(lits); !slices.Equal(again, want) || end != -1 {
		t.Errorf("rule 3: %v, %d, not %v, behind a spoiled %v", again, end, want, told)
	}
}

// As many clauses as an arena holds, each of which sets one variable.
func TestFollowChain(t *testing.T) {
	s := store.New(api.MaxArena)
	for v := range api.MaxVars - 1 {
		if ref, e := s.Add([]int{-(v + 1), v + 2}); ref != v || e != api.OK {
			t.Fatalf("P11.1: %d, %v", ref, e)
		}
	}
	told, end := s.Follow([]int{1})
	if len(told) != api.MaxVars || told[api.MaxVars-1] != api.MaxVars || end != -1 {
		t.Errorf("P11.2: %d literals, %d", len(told), end)
	}
	told, end = s.Follow([]int{-api.MaxVars, 1})
	if len(told) != api.MaxVars || told[api.MaxVars-1] != -1 || end != -2 {
		t.Errorf("P11.2: %d literals, %d", len(told), end)
	}
}

// The longest clause that there is: each literal of it that becomes false must cost no walk over all of it.
func TestFollowLongClause(t *testing.T) {
	var clause, lits []int
	for v := range api.MaxVars {
		clause = append(clause, v+1)
		lits = append(lits, -(v + 1))
	}
	s := filled(t, [][]int{clause})
	for range 20 {
		told, end := s.Follow(lits)
		if len(told) != api.MaxVars || told[api.MaxVars-1] != api.MaxVars || end != -2 {
			t.Fatalf("P11.2: %d literals, %d", len(told), end)
		}
	}
	if told, end := s.Follow(lits[:api.MaxVars-2]); len(told) != api.MaxVars-2 || end != -1 {
		t.Errorf("P11.2: %d literals, %d", len(told), end)
	}
}
