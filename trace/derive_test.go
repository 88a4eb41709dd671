package trace_test

import (
	"math"
	"math/rand"
	"slices"
	"testing"

	"plait/api"
	"plait/trace"
)

// hold asks Derive and holds its answer against the second writing's.
func hold(t *testing.T, clauses [][]int, l []trace.Step) ([][]int, api.Errno) {
	t.Helper()
	got, e := trace.Derive(clauses, l)
	want, f := derive(clauses, l)
	if e != f || !sameClauses(got, want) {
		t.Fatalf("P12.2: Derive(%v, %v): %v, %v, not %v, %v", clauses, l, got, e, want, f)
	}
	return got, e
}

func TestDeriveOfTheChapter(t *testing.T) {
	clauses := [][]int{{1}, {-1, 2}, {-2}}
	for _, c := range []struct {
		clauses [][]int
		l       []trace.Step
		want    [][]int
		e       api.Errno
	}{
		{clauses, steps([]int{0, 1, 2}), [][]int{nil}, api.OK},
		{clauses, steps([]int{1, 2, 0}), [][]int{nil}, api.OK},
		{clauses, steps([]int{0, 1}, []int{3, 2}, []int{4}), [][]int{{2}, nil, nil}, api.OK},
		{[][]int{{1, 2}, {-1, -2}}, steps([]int{0, 1}), nil, api.ErrTraceStep},
		{clauses, nil, nil, api.OK},
		{nil, nil, nil, api.OK},
		{nil, steps([]int{0}), nil, api.ErrTraceStep},
		{clauses, steps([]int{0}, nil), nil, api.ErrTraceStep},
		{clauses, steps([]int{0, 2}), nil, api.ErrTraceStep},
		{clauses, steps([]int{0, 1, 2, 0}), nil, api.ErrTraceStep},
		{clauses, steps([]int{0, 0}), nil, api.ErrTraceStep},
	} {
		got, e := trace.Derive(c.clauses, c.l)
		if e != c.e || !sameClauses(got, c.want) {
			t.Errorf("P12.2: Derive(%v, %v): %v, %v, not %v, %v", c.clauses, c.l, got, e, c.want, c.e)
		}
		hold(t, c.clauses, c.l)
	}
}

// A step may name the clauses ahead of its own one, these alone.
func TestDeriveNumbers(t *testing.T) {
	clauses := [][]int{{1, 2}, {-1, 2}}
	for _, n := range []int{-1, -2, 3, 4, 1 << 31, 1 << 32, math.MinInt, math.MaxInt} {
		for _, l := range [][]trace.Step{steps([]int{0}, []int{n}, []int{0}), steps([]int{0}, []int{0, n}), steps([]int{0}, []int{n, 1})} {
			if got, e := trace.Derive(clauses, l); e != api.ErrTraceStep || len(got) > 0 {
				t.Errorf("P12.2: Derive(%v, %v): %v, %v", clauses, l, got, e)
			}
		}
	}
	for _, c := range []struct {
		l    []trace.Step
		want api.Errno
	}{
		{steps([]int{2}), api.ErrTraceStep},
		{steps([]int{1}, []int{2}), api.OK},
		{steps([]int{1}, []int{3}), api.ErrTraceStep},
		{steps([]int{3}, []int{1}), api.ErrTraceStep},
		{steps([]int{1}, []int{2}, []int{3}, []int{0, 4}), api.OK},
		{steps([]int{1}, []int{2}, []int{3}, []int{0, 5}), api.ErrTraceStep},
		{steps([]int{1}, []int{2}, []int{3}, []int{5, 0}), api.ErrTraceStep},
	} {
		if _, e := hold(t, clauses, c.l); e != c.want {
			t.Errorf("P12.2: Derive(%v, %v): %v, not %v", clauses, c.l, e, c.want)
		}
	}
}

// A number that is no literal counts where its clause is named, there alone.
func TestDeriveLiterals(t *testing.T) {
	const top = 1<<31 - 1
	for _, l := range []int{0, top + 1, -top - 1, 1 << 32, math.MaxInt, math.MinInt, math.MinInt + 1} {
		for _, bad := range [][]int{{l}, {l, 1}, {-2, 1, l}, {1, 1, l}} {
			clauses := [][]int{{2}, bad, {-2, 3}}
			for _, from := range [][]int{{1}, {1, 0}, {0, 1}, {0, 2, 1}} {
				if got, e := hold(t, clauses, steps([]int{0}, from)); e != api.ErrTraceStep || len(got) > 0 {
					t.Errorf("P12.2: Derive(%v, %v): %v, %v", clauses, from, got, e)
				}
			}
			if got, e := trace.Derive(clauses, steps([]int{0, 2}, []int{3})); e != api.OK || !sameClauses(got, [][]int{{3}, {3}}) {
				t.Errorf("P12.2: Derive(%v, ..): %v, %v", clauses, got, e)
			}
		}
	}
	clauses := [][]int{{top, 1}, {-top, -top + 1}, {top - 1}}
	if got, e := hold(t, clauses, steps([]int{0, 1}, []int{1, 2, 0}, []int{0})); e != api.OK || !sameClauses(got, [][]int{{-top + 1, 1}, {1}, {1, top}}) {
		t.Errorf("P12.2: the greatest literals: %v, %v", got, e)
	}
}

// A clause is a set, and may have a literal and its opposite.
func TestDeriveSets(t *testing.T) {
	for _, c := range []struct {
		clauses [][]int
		from    []int
		want    []int
		e       api.Errno
	}{
		{[][]int{{2, 1, 2, 1, 2}}, []int{0}, []int{1, 2}, api.OK},
		{[][]int{{3, -1, 2}}, []int{0}, []int{-1, 2, 3}, api.OK},
		{[][]int{{1, -1}}, []int{0}, []int{-1, 1}, api.OK},
		{[][]int{{1, 1}, {-1, -1}}, []int{0, 1}, nil, api.OK},
		{[][]int{{5, 1, 5}, {5, -1, 4, -1}}, []int{0, 1}, []int{4, 5}, api.OK},
		{[][]int{{1, -1}, {1}}, []int{0, 1}, []int{1}, api.OK},
		{[][]int{{1, -1}, {-1}}, []int{0, 1}, []int{-1}, api.OK},
		{[][]int{{1}, {1, -1}}, []int{0, 1}, []int{1}, api.OK},
		{[][]int{{1}, {-1, 1}}, []int{0, 1, 1, 1, 1}, []int{1}, api.OK},
		{[][]int{{1, -1}, {-1, 1}}, []int{0, 1}, nil, api.ErrTraceStep},
		{[][]int{{1, 2, -2}, {-1, 2, -2}}, []int{0, 1}, nil, api.ErrTraceStep},
		{[][]int{{1, 2, -2}, {-1, 2}}, []int{0, 1}, nil, api.ErrTraceStep},
		{[][]int{{1, 2, -2}, {-1, 3}}, []int{0, 1}, []int{-2, 2, 3}, api.OK},
		{[][]int{{1, 2}, {-2, -1, -2}}, []int{0, 1}, nil, api.ErrTraceStep},
		{[][]int{nil, {1}}, []int{0, 1}, nil, api.ErrTraceStep},
		{[][]int{nil, {1}}, []int{1, 0}, nil, api.ErrTraceStep},
		{[][]int{nil, {1}}, []int{0}, nil, api.OK},
	} {
		got, e := hold(t, c.clauses, steps(c.from))
		if e != c.e || e == api.OK && !sameClauses(got, [][]int{c.want}) {
			t.Errorf("P12.2: Derive(%v, %v): %v, %v, not %v, %v", c.clauses, c.from, got, e, c.want, c.e)
		}
	}
}

// Each three of all clauses over two variables, by one step over all three, and by two.
func TestDeriveAllSmall(t *testing.T) {
	var all [][]int
	for set := range 16 {
		var c []int
		for i, l := range []int{2, -1, 1, -2} {
			if set>>i&1 == 1 {
				c = append(c, l)
			}
		}
		all = append(all, c)
	}
	for _, a := range all {
		for _, b := range all {
			for _, c := range all {
				clauses := [][]int{a, b, c}
				one, e := hold(t, clauses, steps([]int{0, 1, 2}))
				two, f := hold(t, clauses, steps([]int{0, 1}, []int{3, 2}))
				if e != f || e == api.OK && !slices.Equal(one[0], two[1]) {
					t.Fatalf("P12.2: %v: by one step %v, %v, by two %v, %v", clauses, one, e, two, f)
				}
				for bits := range 4 {
					for _, d := range two {
						if allHold(clauses, bits) && !holds(d, bits) {
							t.Fatalf("P12.4: %v: %v isn't entailed", clauses, d)
						}
					}
				}
			}
		}
	}
}

func TestDeriveSome(t *testing.T) {
	r := rand.New(rand.NewSource(122))
	many := map[api.Errno]int{}
	for range 40000 {
		n := 2 + r.Intn(7)
		clauses := someClauses(r, 1+r.Intn(8), n, 3)
		if r.Intn(10) == 0 {
			c := clauses[r.Intn(len(clauses))]
			c[r.Intn(len(c))] = []int{0, 1 << 31, -1 << 31, math.MinInt}[r.Intn(4)]
		}
		l := someSteps(r, len(clauses), r.Intn(6))
		if len(l) > 0 && r.Intn(10) == 0 {
			from := l[r.Intn(len(l))].From
			from[r.Intn(len(from))] = r.Intn(16) - 2
		}
		got, e := hold(t, clauses, l)
		many[e] += len(l)
		for bits := range 1 << n {
			for _, d := range got {
				if allHold(clauses, bits) && !holds(d, bits) {
					t.Fatalf("P12.4: %v, %v: %v isn't entailed", clauses, l, d)
				}
			}
		}
	}
	if many[api.OK] < 5000 || many[api.ErrTraceStep] < 10000 {
		t.Errorf("P12.2: too few of a kind: %v", many)
	}
}

func TestDeriveMemory(t *testing.T) {
	backing := []int{1, 2, -1, 2, 3}
	clauses := [][]int{backing[:2], backing[2:4], backing[4:], {4}}
	from := []int{0, 1, 2}
	l := []trace.Step{{From: from[:2]}, {From: from[:1]}, {From: []int{5}}, {From: []int{9}}}
	got, e := trace.Derive(clauses[:3], l[:2])
	if e != api.OK || !sameClauses(got, [][]int{{2}, {1, 2}}) {
		t.Fatalf("P12.2: %v, %v", got, e)
	}
	more, _ := trace.Derive(clauses[:3], steps([]int{0, 1}, []int{3}, []int{3}, []int{0}))
	for i := range more {
		spoil(more[i])
		for j := i + 1; j < len(more); j++ {
			if slices.Contains(more[j][:cap(more[j])], 99) {
				t.Errorf("rule 3: lists share memory: %v", more)
			}
		}
	}
	for i := range got {
		spoil(got[i])
	}
	if !slices.Equal(backing, []int{1, 2, -1, 2, 3}) || !slices.Equal(clauses[3], []int{4}) || !slices.Equal(from, []int{0, 1, 2}) || l[3].From[0] != 9 {
		t.Errorf("rule 3: what was handed in is changed: %v, %v, %v, %v", backing, clauses, from, l)
	}
}

// A literal that stands in a wide clause is found and left out without going over all of what is resolved so far.
func TestDeriveWide(t *testing.T) {
	const n = 50000
	wide := make([]int, n)
	clauses := [][]int{wide}
	from := []int{0}
	for i := range wide {
		wide[i] = -(i + 1)
		clauses = append(clauses, []int{i + 1, n + 1})
		from = append(from, n-i)
	}
	got, e := trace.Derive(clauses, steps(from, from[:n]))
	if e != api.OK || !sameClauses(got, [][]int{{n + 1}, {-1, n + 1}}) {
		t.Errorf("P12.2: %d clauses, %v", len(got), e)
	}
}
