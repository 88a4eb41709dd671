package trace_test

import (
	"math/rand"
	"slices"
	"testing"

	"plait/api"
	"plait/trace"
)

func TestCheckOfTheChapter(t *testing.T) {
	clauses := [][]int{{1}, {-1, 2}, {-2}}
	for _, c := range []struct {
		clauses [][]int
		l       []trace.Step
		want    api.Errno
	}{
		{clauses, steps([]int{0, 1, 2}), api.OK},
		{clauses, steps([]int{1, 2, 0}), api.OK},
		{clauses, steps([]int{2, 1, 0}), api.OK},
		{clauses, steps([]int{0, 1}, []int{3, 2}), api.OK},
		{clauses, steps([]int{0, 1, 2}, []int{3}), api.OK},
		{clauses, nil, api.ErrTraceEnd},
		{nil, nil, api.ErrTraceEnd},
		{[][]int{nil}, nil, api.ErrTraceEnd},
		{[][]int{nil}, steps([]int{0}), api.OK},
		{[][]int{nil, {1}}, steps([]int{0}, []int{1}), api.ErrTraceEnd},
		{clauses, steps([]int{0, 1}), api.ErrTraceEnd},
		{clauses, steps([]int{0, 1, 2}, []int{0}), api.ErrTraceEnd},
		{clauses, steps([]int{0, 2, 1}), api.ErrTraceStep},
		{clauses, steps([]int{0, 1, 2}, nil), api.ErrTraceStep},
		{clauses, steps([]int{0, 1, 2}, []int{4}), api.ErrTraceStep},
		{clauses, steps([]int{0, 1, 2}, []int{1<<31 - 1}), api.ErrTraceStep},
		{[][]int{{1, 2}, {-1, -2}}, steps([]int{0, 1}), api.ErrTraceStep},
		{[][]int{{1}, {-1}, {0}}, steps([]int{0, 1}), api.OK},
		{[][]int{{1}, {-1}, {0}}, steps([]int{2}, []int{0, 1}), api.ErrTraceStep},
	} {
		b := encoded(t, c.l)
		if e := trace.Check(c.clauses, b); e != c.want {
			t.Errorf("P12.3: Check(%v, %v): %v, not %v", c.clauses, c.l, e, c.want)
		}
		if got, e := trace.Trim(c.clauses, b); e != c.want || e != api.OK && len(got) > 0 {
			t.Errorf("P12.3: Trim(%v, %v): %x, %v, not %v", c.clauses, c.l, got, e, c.want)
		}
	}
}

// Decode's error is told ahead of Derive's, this ahead of ErrTraceEnd.
func TestCheckBytes(t *testing.T) {
	clauses := [][]int{{1}, {-1}}
	right := encoded(t, steps([]int{0, 1}))
	for _, c := range []struct {
		b    []byte
		want api.Errno
	}{
		{right, api.OK},
		{nil, api.ErrTraceForm},
		{right[:len(right)-1], api.ErrTraceForm},
		{append(slices.Clone(right), 0), api.ErrTraceForm},
		{encoded(t, steps([]int{7}))[:15], api.ErrTraceForm},
		{append(slices.Clone(right), make([]byte, api.MaxTrace+1-len(right))...), api.ErrTraceLong},
		{make([]byte, api.MaxTrace+1), api.ErrTraceLong},
		{make([]byte, api.MaxTrace), api.ErrTraceForm},
		{encoded(t, steps([]int{0}, []int{0, 0}, []int{0})), api.ErrTraceStep},
		{encoded(t, steps([]int{0}, []int{1})), api.ErrTraceEnd},
	} {
		if e := trace.Check(clauses, c.b); e != c.want {
			t.Errorf("P12.3: Check of %d bytes: %v, not %v", len(c.b), e, c.want)
		}
		if got, e := trace.Trim(clauses, c.b); e != c.want || e != api.OK && len(got) > 0 {
			t.Errorf("P12.3: Trim of %d bytes: %x, %v, not %v", len(c.b), got, e, c.want)
		}
	}
}

func TestTrimOfTheChapter(t *testing.T) {
	clauses := [][]int{{1}, {-1, 2}, {-2}, {7}}
	for _, c := range []struct{ l, want []trace.Step }{
		{steps([]int{0, 1, 2}), steps([]int{0, 1, 2})},
		{steps([]int{3}, []int{0, 1}, []int{4}, []int{5, 2}), steps([]int{0, 1}, []int{4, 2})},
		{steps([]int{0, 1, 2}, []int{0, 1, 2}), steps([]int{0, 1, 2})},
		{steps([]int{0, 1, 2}, []int{4}), steps([]int{0, 1, 2}, []int{4})},
		{steps([]int{0, 1, 2}, []int{3}, []int{4}), steps([]int{0, 1, 2}, []int{4})},
		{steps([]int{1, 2}, []int{3}, []int{0, 1}, []int{3}, []int{6, 2}, []int{0, 4}), steps([]int{1, 2}, []int{0, 4})},
		{steps([]int{3}, []int{1, 2}, []int{5}, []int{0, 6}), steps([]int{1, 2}, []int{4}, []int{0, 5})},
	} {
		got, e := trace.Trim(clauses, encoded(t, c.l))
		if l, _ := trace.Decode(got); e != api.OK || !sameSteps(l, c.want) {
			t.Errorf("P12.3: Trim(%v, %v): %v, %v, not %v", clauses, c.l, l, e, c.want)
		}
	}
}

// hardClauses makes clauses over variables 1 to n that can't all be true, as a trace of them is.
func hardClauses(t *testing.T, r *rand.Rand, n int) ([][]int, []trace.Step) {
	t.Helper()
	for {
		clauses := someClauses(r, 3*n+r.Intn(6*n), n, 3)
		if l, ok := refute(clauses, n); ok {
			return clauses, l
		}
	}
}

// padded puts steps that aren't needed between those of a trace.
func padded(r *rand.Rand, given int, l []trace.Step) []trace.Step {
	var all []trace.Step
	renamed := map[int]int{}
	for i, s := range l {
		for range r.Intn(3) {
			all = append(all, trace.Step{From: []int{r.Intn(given + len(all))}})
		}
		from := slices.Clone(s.From)
		for j, n := range from {
			if n >= given {
				from[j] = renamed[n]
			}
		}
		renamed[given+i] = given + len(all)
		all = append(all, trace.Step{From: from})
	}
	return all
}

func TestTrimSome(t *testing.T) {
	r := rand.New(rand.NewSource(123))
	shorter := 0
	for range 1500 {
		clauses, l := hardClauses(t, r, 2+r.Intn(6))
		if r.Intn(2) == 0 {
			l = padded(r, len(clauses), l)
		}
		b := encoded(t, l)
		if e := trace.Check(clauses, b); e != api.OK {
			t.Fatalf("P12.3: Check(%v, %v): %v", clauses, l, e)
		}
		got, e := trace.Trim(clauses, b)
		left, _ := trace.Decode(got)
		if want := trimmed(len(clauses), l); e != api.OK || !sameSteps(left, want) {
			t.Fatalf("P12.3: Trim(%v, %v): %v, %v, not %v", clauses, l, left, e, want)
		}
		if e := trace.Check(clauses, got); e != api.OK || len(left) > len(l) {
			t.Fatalf("P12.5: Check of the trimmed %v, %v: %v", clauses, left, e)
		}
		if again, e := trace.Trim(clauses, got); e != api.OK || !slices.Equal(again, got) {
			t.Fatalf("P12.5: Trim of the trimmed %v, %v: %x, %v", clauses, left, again, e)
		}
		if len(left) < len(l) {
			shorter++
		}
	}
	if shorter < 500 {
		t.Errorf("P12.3: only %d were shortened", shorter)
	}
}

// Whatever is accepted: no assignment makes all clauses true. Here traces are changed at random, and held against other clauses than theirs.
func TestCheckWhatever(t *testing.T) {
	r := rand.New(rand.NewSource(124))
	many := map[api.Errno]int{}
	for range 3000 {
		n := 2 + r.Intn(4)
		clauses, l := hardClauses(t, r, n)
		for range 20 {
			other := cloned(clauses)
			b := encoded(t, l)
			for range r.Intn(3) {
				b[r.Intn(len(b)/4)*4+3] = byte(r.Intn(len(clauses) + len(l)))
			}
			if r.Intn(2) == 0 {
				c := other[r.Intn(len(other))]
				c[r.Intn(len(c))] = r.Intn(2*n+1) - n
			}
			e := trace.Check(other, b)
			many[e]++
			if e == api.OK && someWay(other, n) {
				t.Fatalf("P12.4: %v, % x: accepted, and an assignment makes all true", other, b)
			}
			if e == api.OK {
				continue
			}
			if got, f := trace.Trim(other, b); f != e || len(got) > 0 {
				t.Fatalf("P12.3: Trim(%v, % x): %x, %v, not %v", other, b, got, f, e)
			}
		}
	}
	for _, e := range []api.Errno{api.OK, api.ErrTraceForm, api.ErrTraceStep} {
		if many[e] < 1000 {
			t.Errorf("P12.3: too few of a kind: %v", many)
		}
	}
}

// Every trace of up to two steps of one or two numbers, over every pair of clauses over two variables.
func TestCheckAllSmall(t *testing.T) {
	var all [][]int
	for set := range 16 {
		var c []int
		for i, l := range []int{1, -1, 2, -2} {
			if set>>i&1 == 1 {
				c = append(c, l)
			}
		}
		all = append(all, c)
	}
	var froms [][]int
	for a := range 3 {
		froms = append(froms, []int{a})
		for b := range 3 {
			froms = append(froms, []int{a, b})
		}
	}
	for _, a := range all {
		for _, b := range all {
			clauses := [][]int{a, b}
			can := someWay(clauses, 2)
			accepted := false
			for _, f := range froms {
				for _, g := range froms {
					accepted = checkBoth(t, clauses, steps(f), can) || accepted
					accepted = checkBoth(t, clauses, steps(f, g), can) || accepted
				}
			}
			if accepted == can {
				t.Fatalf("P12.3: %v: accepted: %v", clauses, accepted)
			}
		}
	}
}

// checkBoth holds Check against the second writing, and tells whether it accepts.
func checkBoth(t *testing.T, clauses [][]int, l []trace.Step, can bool) bool {
	t.Helper()
	want, e := derive(clauses, l)
	if e == api.OK && len(want[len(want)-1]) > 0 {
		e = api.ErrTraceEnd
	}
	if got := trace.Check(clauses, encoded(t, l)); got != e || got == api.OK && can {
		t.Fatalf("P12.4: Check(%v, %v): %v, not %v", clauses, l, got, e)
	}
	return e == api.OK
}

// As long a trace as may be: one step over all clauses, and a step for each two.
func TestCheckLongest(t *testing.T) {
	most := api.MaxTrace/4 - 2
	clauses := [][]int{{1}}
	var one []int
	for len(clauses) < most-2 {
		clauses = append(clauses, []int{-len(clauses), len(clauses) + 1})
	}
	clauses = append(clauses, []int{-len(clauses)})
	for i := range clauses {
		one = append(one, i)
	}
	pairs := most / 3
	short := append(slices.Clone(clauses[:pairs]), []int{-pairs})
	two := steps([]int{0, 1})
	for i := 2; i <= pairs; i++ {
		two = append(two, trace.Step{From: []int{pairs + i - 1, i}})
	}
	for _, c := range []struct {
		clauses [][]int
		l       []trace.Step
	}{{clauses, steps(one)}, {short, two}} {
		b := encoded(t, c.l)
		if e := trace.Check(c.clauses, b); e != api.OK {
			t.Errorf("P12.3: Check of %d bytes: %v", len(b), e)
		}
		if got, e := trace.Trim(c.clauses, b); e != api.OK || !slices.Equal(got, b) {
			t.Errorf("P12.3: Trim of %d bytes: %d, %v", len(b), len(got), e)
		}
		if len(b) < api.MaxTrace-12 {
			t.Errorf("P12.3: only %d bytes", len(b))
		}
	}
}

func TestCheckMemory(t *testing.T) {
	clauses := [][]int{{2, 1, 2}, {-1, 2}, {-2}}
	b := encoded(t, steps([]int{0}, []int{0, 1, 2}))
	given, bytes := cloned(clauses), slices.Clone(b)
	trace.Check(clauses, b)
	got, _ := trace.Trim(clauses, b)
	want := slices.Clone(got)
	for i := range got {
		got[i] = 0xEE
	}
	if !sameClauses(clauses, given) || !slices.Equal(b, bytes) {
		t.Errorf("rule 3: what was handed in is changed: %v, % x", clauses, b)
	}
	for range 20 {
		if again, e := trace.Trim(clauses, b); e != api.OK || !slices.Equal(again, want) {
			t.Errorf("rule 8: % x, %v, not % x", again, e, want)
		}
	}
}
