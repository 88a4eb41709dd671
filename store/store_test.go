package store_test

import (
	"math"
	"math/rand"
	"slices"
	"testing"

	"plait/api"
	"plait/store"
)

func TestAddOfTheChapter(t *testing.T) {
	s := store.New(api.MaxArena)
	if ref, e := s.Add([]int{1, -1}); ref != 0 || e != api.ErrStoreBoth {
		t.Errorf("P11.1: Add(1, -1): %d, %v", ref, e)
	}
	if ref, e := s.Add([]int{4, 4}); ref != 0 || e != api.OK {
		t.Errorf("P11.1: Add(4, 4): %d, %v", ref, e)
	}
	if c, e := s.Clause(0); !slices.Equal(c, []int{4}) || e != api.OK {
		t.Errorf("P11.1: the clause of (4, 4): %v, %v", c, e)
	}
}

func TestAddWrong(t *testing.T) {
	for _, c := range []struct {
		clause []int
		want   api.Errno
	}{
		{[]int{0}, api.ErrStoreLit},
		{[]int{api.MaxVars + 1}, api.ErrStoreLit},
		{[]int{-api.MaxVars - 1}, api.ErrStoreLit},
		{[]int{math.MinInt}, api.ErrStoreLit},
		{[]int{math.MaxInt}, api.ErrStoreLit},
		{[]int{math.MinInt, math.MinInt}, api.ErrStoreLit},
		{[]int{1, -1, 0}, api.ErrStoreLit},
		{[]int{0, 1, -1}, api.ErrStoreLit},
		{[]int{1, 2, 3, 4, 5, 6, 7, 8, 0}, api.ErrStoreLit},
		{[]int{1, -1}, api.ErrStoreBoth},
		{[]int{-1, 1}, api.ErrStoreBoth},
		{[]int{2, 3, 2, -3}, api.ErrStoreBoth},
		{[]int{1, 2, 3, 4, 5, 6, 7, 8, -1}, api.ErrStoreBoth},
		{[]int{api.MaxVars, -api.MaxVars}, api.ErrStoreBoth},
		{[]int{1, 2, 3, 4, 5, 6, 7, 8}, api.ErrStoreMany},
	} {
		s := store.New(9)
		s.Add([]int{1, 2})
		if ref, e := s.Add(c.clause); ref != 0 || e != c.want {
			t.Errorf("P11.1: Add(%v): %d, %v, not %v", c.clause, ref, e, c.want)
		}
		if s.Len() != 1 || s.Words() != 4 || s.Has([]int{1}) {
			t.Errorf("rule 4: Add(%v) is refused and changes something", c.clause)
		}
		if told, end := s.Follow([]int{-1}); !slices.Equal(told, []int{-1, 2}) || end != -1 {
			t.Errorf("rule 4: Add(%v) is refused, and Follow tells %v, %d", c.clause, told, end)
		}
	}
}

func TestAddEdges(t *testing.T) {
	s := store.New(api.MaxArena)
	clauses := [][]int{
		nil,
		{api.MaxVars},
		{-api.MaxVars},
		{5, -3, 5, 1, -3},
		{1, 2},
		{1, 2},
		nil,
		{2, 1},
	}
	want := [][]int{nil, {api.MaxVars}, {-api.MaxVars}, {5, -3, 1}, {1, 2}, {1, 2}, nil, {2, 1}}
	words := 0
	for i, c := range clauses {
		ref, e := s.Add(c)
		words += len(want[i]) + 2
		if ref != i || e != api.OK || s.Len() != i+1 || s.Words() != words {
			t.Errorf("P11.1: Add(%v): %d, %v; %d clauses, %d words", c, ref, e, s.Len(), s.Words())
		}
	}
	for i, c := range want {
		if got, e := s.Clause(i); !slices.Equal(got, c) || e != api.OK {
			t.Errorf("P11.1: Clause(%d): %v, %v, not %v", i, got, e, c)
		}
	}
	for _, no := range []int{-1, len(clauses), math.MinInt, math.MaxInt} {
		if got, e := s.Clause(no); got != nil || e != api.ErrStoreNone {
			t.Errorf("P11.1: Clause(%d): %v, %v", no, got, e)
		}
	}
	if got, e := store.New(5).Clause(0); got != nil || e != api.ErrStoreNone {
		t.Errorf("P11.1: Clause(0) of none: %v, %v", got, e)
	}
}

// Each room from the least up: a clause is refused just where it doesn't fit, and smaller ones are taken then.
func TestRoom(t *testing.T) {
	for most := -3; most < 40; most++ {
		s := store.New(most)
		room, words, many := max(most, 1), 0, 0
		for _, n := range []int{3, 0, 5, 1, 2, 7, 0, 4, 1, 0, 3, 0, 0, 0, 1} {
			var clause []int
			for l := range n {
				clause = append(clause, -(l + 1), -(l + 1))
			}
			ref, e := s.Add(clause)
			switch {
			case words+n+2 > room:
				if ref != 0 || e != api.ErrStoreMany {
					t.Errorf("P11.1: most %d: %d words, %d literals: %d, %v", most, words, n, ref, e)
				}
			case ref != many || e != api.OK:
				t.Errorf("P11.1: most %d: %d words, %d literals: %d, %v", most, words, n, ref, e)
			default:
				words, many = words+n+2, many+1
			}
			if s.Words() != words || s.Len() != many {
				t.Errorf("P11.1: most %d: %d words, %d clauses, not %d, %d", most, s.Words(), s.Len(), words, many)
			}
		}
	}
}

func TestRoomAtTheEnds(t *testing.T) {
	for _, most := range []int{math.MinInt, -1, 0, 1} {
		if ref, e := store.New(most).Add(nil); ref != 0 || e != api.ErrStoreMany {
			t.Errorf("P11.1: New(%d): %d, %v", most, ref, e)
		}
	}
	if _, e := store.New(2).Add(nil); e != api.OK {
		t.Errorf("P11.1: New(2): %v", e)
	}
	for _, most := range []int{math.MaxInt, api.MaxArena + 1, api.MaxArena, api.MaxArena - 1} {
		s := store.New(most)
		room := min(most, api.MaxArena)
		for s.Words()+5 <= room {
			if _, e := s.Add([]int{1, 2, 3}); e != api.OK {
				t.Fatalf("P11.1: New(%d), %d words: %v", most, s.Words(), e)
			}
		}
		left := room - s.Words()
		if _, e := s.Add([]int{1, 2, 3}[:left-1]); e != api.ErrStoreMany {
			t.Errorf("P11.1: New(%d), %d left: %v", most, left, e)
		}
		if _, e := s.Add([]int{1, 2, 3}[:left-2]); e != api.OK || s.Words() != room {
			t.Errorf("P11.1: New(%d), %d left: %v, %d", most, left, e, s.Words())
		}
		if _, e := s.Add(nil); e != api.ErrStoreMany {
			t.Errorf("P11.1: New(%d), full: %v", most, e)
		}
	}
}

// What is long only because it says things again fits all the same.
func TestAddManyAgain(t *testing.T) {
	long := make([]int, 2*api.MaxArena)
	for i := range long {
		long[i] = 1 + i%3
	}
	s := store.New(5)
	if ref, e := s.Add(long); ref != 0 || e != api.OK || s.Words() != 5 {
		t.Errorf("P11.1: %d, %v, %d words", ref, e, s.Words())
	}
	if !s.Has(long) {
		t.Error("P11.1: Has, of literals that stand often")
	}
}

func TestHasSmall(t *testing.T) {
	all := allClauses(3)
	for _, a := range all {
		for _, b := range all {
			s := filled(t, [][]int{a, b})
			for _, c := range all {
				want := slices.Equal(sorted(a), sorted(c)) || slices.Equal(sorted(b), sorted(c))
				if got := s.Has(c); got != want {
					t.Fatalf("P11.1: %v, %v: Has(%v): %v", a, b, c, got)
				}
			}
		}
	}
}

func TestHasSome(t *testing.T) {
	r := rand.New(rand.NewSource(15))
	for range 500 {
		n := 2 + r.Intn(8)
		clauses := someClauses(r, 1+r.Intn(30), n, 0, n)
		s := filled(t, clauses)
		for range 30 {
			asked := slices.Clone(clauses[r.Intn(len(clauses))])
			if len(asked) > 0 && r.Intn(2) == 0 {
				asked[r.Intn(len(asked))] *= -1
			}
			if len(asked) > 0 && r.Intn(4) == 0 {
				asked = asked[1:]
			}
			r.Shuffle(len(asked), func(i, j int) { asked[i], asked[j] = asked[j], asked[i] })
			want := slices.ContainsFunc(clauses, func(c []int) bool { return slices.Equal(sorted(c), sorted(asked)) })
			if got := s.Has(append(asked, asked...)); got != want {
				t.Fatalf("P11.1: %v: Has(%v twice): %v", clauses, asked, got)
			}
		}
	}
}

func TestHasWrong(t *testing.T) {
	s := filled(t, [][]int{nil, {1}, {-1}, {1, 2}, {api.MaxVars, 1}})
	for _, c := range [][]int{{0}, {1, 0}, {1, -1}, {1, 2, -1}, {1, 2, 3}, {2}, {api.MaxVars + 1}, {1, api.MaxVars + 1}, {math.MinInt}, {math.MaxInt, 1}} {
		if s.Has(c) {
			t.Errorf("P11.1: Has(%v)", c)
		}
	}
	for _, c := range [][]int{nil, {}, {1}, {-1}, {2, 1}, {1, api.MaxVars}} {
		if !s.Has(c) {
			t.Errorf("P11.1: Has(%v) isn't", c)
		}
	}
	e := store.New(9)
	for _, c := range [][]int{nil, {1}, {1, 2}, {-api.MaxVars, api.MaxVars - 1}} {
		if e.Has(c) {
			t.Errorf("P11.1: Has(%v) of none", c)
		}
	}
}

func TestMemory(t *testing.T) {
	s := store.New(api.MaxArena)
	backing := []int{3, 1, 3, 2, 9, 9, 9}
	clause := backing[:4]
	s.Add(clause)
	s.Add([]int{-3, 4})
	s.Has(clause)
	if !slices.Equal(backing, []int{3, 1, 3, 2, 9, 9, 9}) {
		t.Errorf("rule 3: what was handed in is changed: %v", backing)
	}
	for i := range backing {
		backing[i] = 7
	}
	told, _ := s.Clause(0)
	for i := range told {
		told[i] = 8
	}
	told = told[:cap(told)]
	for i := range told {
		told[i] = 8
	}
	for i, want := range [][]int{{3, 1, 2}, {-3, 4}} {
		if got, _ := s.Clause(i); !slices.Equal(got, want) {
			t.Errorf("rule 3: Clause(%d): %v, not %v", i, got, want)
		}
	}
}

func TestTwoStores(t *testing.T) {
	a, b := store.New(20), store.New(20)
	a.Add([]int{1})
	a.Add([]int{-1, 2})
	b.Add([]int{-1})
	if told, end := a.Follow(nil); !slices.Equal(told, []int{1, 2}) || end != -1 || b.Len() != 1 {
		t.Errorf("rule 8: %v, %d", told, end)
	}
	if told, end := b.Follow(nil); !slices.Equal(told, []int{-1}) || end != -1 || b.Has([]int{1}) {
		t.Errorf("rule 8: %v, %d", told, end)
	}
}
