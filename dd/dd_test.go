package dd_test

import (
	"math"
	"math/rand"
	"slices"
	"strconv"
	"testing"

	"plait/api"
	"plait/dd"
)

// noNumbers: what is no diagram of a manager with few nodes.
func noNumbers() []int {
	return []int{-1, -2, 100, api.MaxNodes + 2, math.MinInt, math.MaxInt}
}

// must tells a call's number; the call had to be right.
func must(t *testing.T) func(int, api.Errno) int {
	return func(f int, e api.Errno) int {
		t.Helper()
		if e != api.OK {
			t.Fatalf("P14.2: %v", e)
		}
		return f
	}
}

func TestOfTheChapter(t *testing.T) {
	m, is := dd.New(2, 100), must(t)
	x, y := is(m.Var(0)), is(m.Var(1))
	and := is(m.And(x, y))
	if n, _ := m.Size(and); n != 2 {
		t.Errorf("P14.3: Size %d", n)
	}
	if n, _ := m.Count(and); n != "1" {
		t.Errorf("P14.4: Count %s", n)
	}
	if or, not := is(m.Or(is(m.Not(x)), is(m.Not(y)))), is(m.Not(and)); or != not {
		t.Errorf("P14.5: %d, %d", or, not)
	}
	if l, ok, e := m.Some(and); !slices.Equal(l, []int{1, 2}) || !ok || e != api.OK {
		t.Errorf("P14.4: Some: %v, %v, %v", l, ok, e)
	}
	m = dd.New(3, 100)
	three := is(m.Xor(is(m.Xor(is(m.Var(0)), is(m.Var(1)))), is(m.Var(2))))
	if n, _ := m.Size(three); n != 5 {
		t.Errorf("P14.3: Size %d", n)
	}
}

func TestConstants(t *testing.T) {
	for n := range 4 {
		m := dd.New(n, 100)
		for f, many := range []string{"0", strconv.Itoa(1 << n)} {
			v, e := m.Eval(f, make([]bool, n))
			if v != (f == 1) || e != api.OK {
				t.Errorf("P14.4: Eval(%d): %v, %v", f, v, e)
			}
			if got, e := m.Count(f); got != many || e != api.OK {
				t.Errorf("P14.4: Count(%d): %s, %v", f, got, e)
			}
			if l, ok, e := m.Some(f); len(l) > 0 || ok != (f == 1) || e != api.OK {
				t.Errorf("P14.4: Some(%d): %v, %v, %v", f, l, ok, e)
			}
			if s, e := m.Size(f); s != 0 || e != api.OK {
				t.Errorf("P14.3: Size(%d): %d, %v", f, s, e)
			}
			if v, lo, hi, ok := m.Node(f); v != 0 || lo != 0 || hi != 0 || ok {
				t.Errorf("P14.3: Node(%d): %d, %d, %d, %v", f, v, lo, hi, ok)
			}
			for range 3 {
				if m.Pin(f) != api.OK || m.Unpin(f) != api.OK || m.Unpin(f) != api.OK || m.Live() != 0 {
					t.Errorf("P14.3: Pin, Unpin of %d, Live %d", f, m.Live())
				}
			}
			if not, e := m.Not(f); not != 1-f || e != api.OK {
				t.Errorf("P14.2: Not(%d): %d, %v", f, not, e)
			}
		}
	}
}

func TestNoNode(t *testing.T) {
	m, is := dd.New(2, 10), must(t)
	x := is(m.Var(0))
	for _, no := range noNumbers() {
		for name, many := range map[string]int{"Ite": 3, "Not": 1, "And": 2, "Or": 2, "Xor": 2} {
			for at := range many {
				for _, other := range []int{0, 1, x, no} {
					f := slices.Repeat([]int{other}, many)
					f[at] = no
					if got, e := ask(m, name, f); got != 0 || e != api.ErrDdNode {
						t.Errorf("P14.2: %s%v: %d, %v", name, f, got, e)
					}
				}
			}
		}
		if m.Pin(no) != api.ErrDdNode || m.Unpin(no) != api.ErrDdNode {
			t.Errorf("P14.3: Pin, Unpin of %d", no)
		}
		if n, e := m.Size(no); n != 0 || e != api.ErrDdNode {
			t.Errorf("P14.3: Size(%d): %d, %v", no, n, e)
		}
		if v, lo, hi, ok := m.Node(no); v != 0 || lo != 0 || hi != 0 || ok {
			t.Errorf("P14.3: Node(%d): %d, %d, %d, %v", no, v, lo, hi, ok)
		}
		for _, in := range [][]bool{nil, {true}, {true, true}, {true, true, true}} {
			if v, e := m.Eval(no, in); v || e != api.ErrDdNode {
				t.Errorf("P14.4: Eval(%d, %v): %v, %v", no, in, v, e)
			}
		}
		if n, e := m.Count(no); n != "" || e != api.ErrDdNode {
			t.Errorf("P14.4: Count(%d): %s, %v", no, n, e)
		}
		if l, ok, e := m.Some(no); len(l) > 0 || ok || e != api.ErrDdNode {
			t.Errorf("P14.4: Some(%d): %v, %v, %v", no, l, ok, e)
		}
	}
}

func TestNoVariable(t *testing.T) {
	for _, c := range []struct{ given, vars int }{
		{math.MinInt, 0}, {-1, 0}, {0, 0}, {1, 1}, {7, 7}, {4095, 4095}, {4096, 4096}, {4097, 4096}, {math.MaxInt, 4096},
	} {
		m := dd.New(c.given, 10)
		for _, no := range []int{math.MinInt, -1, c.vars, c.vars + 1, math.MaxInt} {
			if f, e := m.Var(no); f != 0 || e != api.ErrDdVar {
				t.Errorf("P14.2: New(%d): Var(%d): %d, %v", c.given, no, f, e)
			}
		}
		if c.vars > 0 {
			f := must(t)(m.Var(c.vars - 1))
			if v, lo, hi, ok := m.Node(f); v != c.vars-1 || lo != 0 || hi != 1 || !ok {
				t.Errorf("P14.3: New(%d): Node: %d, %d, %d, %v", c.given, v, lo, hi, ok)
			}
		}
		for _, many := range []int{0, 1, c.vars - 1, c.vars, c.vars + 1, 2 * c.vars} {
			want := api.ErrDdVar
			if many == c.vars {
				want = api.OK
			}
			if v, e := m.Eval(1, make([]bool, max(many, 0))); many >= 0 && (e != want || v != (want == api.OK)) {
				t.Errorf("P14.4: New(%d): Eval with %d values: %v, %v", c.given, many, v, e)
			}
		}
	}
}

// All questions about functions of two variables, and those with two operands of three variables.
func TestAllSmall(t *testing.T) {
	m, numbers := allFunctions(t, 2)
	for f := range numbers {
		for g := range numbers {
			for h := range numbers {
				want := meaning(15, "Ite", []table{table(f), table(g), table(h)})
				if got, e := m.Ite(numbers[f], numbers[g], numbers[h]); e != api.OK || got != numbers[want] {
					t.Fatalf("P14.2: Ite of %x, %x, %x: %d, %v, not %d", f, g, h, got, e, numbers[want])
				}
			}
		}
	}
	m, numbers = allFunctions(t, 3)
	for f := range numbers {
		for g := range numbers {
			for _, name := range []string{"Not", "And", "Or", "Xor"} {
				want := meaning(255, name, []table{table(f), table(g)})
				if got, e := ask(m, name, []int{numbers[f], numbers[g]}); e != api.OK || got != numbers[want] {
					t.Fatalf("P14.2: %s of %x, %x: %d, %v, not %d", name, f, g, got, e, numbers[want])
				}
			}
		}
	}
}

// allFunctions makes all functions of some variables, each by the or of its assignments.
func allFunctions(t *testing.T, n int) (*dd.Manager, []int) {
	b, is := newBench(t, n, api.MaxNodes), must(t)
	numbers := make([]int, 1<<(1<<n))
	for f := range numbers {
		for a := range 1 << n {
			if f>>a&1 == 0 {
				continue
			}
			one := 1
			for i := range n {
				v := is(b.m.Var(i))
				if a>>i&1 == 0 {
					v = is(b.m.Not(v))
				}
				one = is(b.m.And(v, one))
			}
			numbers[f] = is(b.m.Or(numbers[f], one))
		}
		b.answered[numbers[f]] = table(f)
	}
	for f := range numbers {
		b.checkOne(numbers[f], table(f))
	}
	if alive := b.alive(); len(alive) != len(numbers) {
		t.Fatalf("P14.5: %d numbers of %d functions", len(alive), len(numbers))
	}
	return b.m, numbers
}

// Some calls with little room: all that is told is held against tables.
func TestSome(t *testing.T) {
	ends := map[string]int{}
	for seed := range 400 {
		r := rand.New(rand.NewSource(int64(seed)))
		b := newBench(t, r.Intn(7), r.Intn(30)-1)
		for range 120 {
			b.step(r)
		}
		for name, many := range b.ends {
			ends[name] += many
		}
	}
	for _, name := range []string{"done", "collected", "refused", "none"} {
		if ends[name] < 300 {
			t.Errorf("P14.2: too few calls that were %s: %v", name, ends)
		}
	}
}

// Numbers hang on nothing but what the manager was told: not on chance, not on another manager.
func TestAgain(t *testing.T) {
	for seed := range 40 {
		seeds := rand.NewSource(int64(seed))
		n, most := 3+seed%4, 8+seed%20
		alone := newBench(t, n, most)
		r := rand.New(seeds)
		for range 100 {
			alone.step(r)
		}
		b, other := newBench(t, n, most), newBench(t, n, most)
		r, chance := rand.New(rand.NewSource(int64(seed))), rand.New(rand.NewSource(99))
		for range 100 {
			b.step(r)
			other.step(chance)
		}
		if !slices.Equal(alone.told, b.told) {
			t.Fatalf("P14.1: once %v, once %v", alone.told, b.told)
		}
	}
}

func TestMemory(t *testing.T) {
	m, is := dd.New(3, 100), must(t)
	f := is(m.And(is(m.Var(0)), is(m.Var(2))))
	way, _, _ := m.Some(f)
	for i := range way[:cap(way)] {
		way[:cap(way)][i] = 99
	}
	if way, _, _ := m.Some(f); !slices.Equal(way, []int{1, 3}) {
		t.Errorf("P14.4: Some: %v", way)
	}
	room := []bool{true, false, true, true, true}
	if v, e := m.Eval(f, room[:3]); !v || e != api.OK || !slices.Equal(room, []bool{true, false, true, true, true}) {
		t.Errorf("P14.4: Eval: %v, %v, %v", v, e, room)
	}
}
