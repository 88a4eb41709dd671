package dd_test

import (
	"math/rand"
	"testing"

	"plait/api"
	"plait/dd"
)

// isVariable tells whether a number is the diagram of a variable.
func isVariable(m *dd.Manager, f, i int) bool {
	v, lo, hi, ok := m.Node(f)
	return ok && v == i && lo == 0 && hi == 1
}

// variables makes some variables.
func variables(t *testing.T, m *dd.Manager, n int) []int {
	var l []int
	for i := range n {
		l = append(l, must(t)(m.Var(i)))
	}
	return l
}

// A full manager collects only where a node must be made.
func TestCollectsOnlyThen(t *testing.T) {
	m := dd.New(9, 5)
	x := variables(t, m, 5)
	for _, f := range []func() (int, api.Errno){
		func() (int, api.Errno) { return m.Var(3) },
		func() (int, api.Errno) { return m.And(x[0], x[0]) },
		func() (int, api.Errno) { return m.And(x[0], 1) },
		func() (int, api.Errno) { return m.Or(0, x[1]) },
		func() (int, api.Errno) { return m.Xor(x[1], x[1]) },
		func() (int, api.Errno) { return m.Ite(x[2], 1, 0) },
		func() (int, api.Errno) { return m.Ite(x[2], x[3], x[3]) },
		func() (int, api.Errno) { return m.Not(0) },
		func() (int, api.Errno) { return m.Var(9) },
		func() (int, api.Errno) { return m.Var(-1) },
		func() (int, api.Errno) { return m.And(x[0], 77) },
		func() (int, api.Errno) { return m.Ite(x[0], x[1], -1) },
	} {
		f()
		for i, v := range x {
			if !isVariable(m, v, i) {
				t.Fatalf("P14.1: variable %d has gone", i)
			}
		}
	}
}

// What is collected goes, but for what is pinned and the operands, with their parts.
func TestWhatStays(t *testing.T) {
	m, is := dd.New(9, 6), must(t)
	x := variables(t, m, 4)
	both := is(m.And(x[2], x[3])) // a node of its own, and x[3]
	m.Pin(both)
	last := is(m.Var(4))
	f := is(m.And(x[0], x[1])) // the seventh node
	for i, v := range x {
		if isVariable(m, v, i) != (i != 2) {
			t.Errorf("P14.1: variable %d is there: %v", i, i == 2)
		}
	}
	if isVariable(m, last, 4) {
		t.Error("P14.1: what was answered and is no operand is still there")
	}
	if n, e := m.Size(both); n != 2 || e != api.OK {
		t.Errorf("P14.1: what is pinned: %d, %v", n, e)
	}
	if v, lo, hi, ok := m.Node(f); v != 0 || lo != 0 || hi != x[1] || !ok {
		t.Errorf("P14.2: %d, %d, %d, %v", v, lo, hi, ok)
	}
}

func TestGoneIsNone(t *testing.T) {
	m, is := dd.New(5, 3), must(t)
	x := variables(t, m, 3)
	is(m.Var(3))
	gone := 0
	for i, f := range x {
		if isVariable(m, f, i) {
			t.Errorf("P14.1: variable %d is still there", i)
		}
		if _, e := m.Size(f); e == api.ErrDdNode {
			gone++
			if _, e := m.Or(f, 0); e != api.ErrDdNode {
				t.Errorf("P14.1: Or of what has gone: %v", e)
			}
			if e := m.Pin(f); e != api.ErrDdNode {
				t.Errorf("P14.1: Pin of what has gone: %v", e)
			}
		}
	}
	if gone < 2 {
		t.Errorf("P14.1: of three that went, %d are none", gone)
	}
}

func TestPins(t *testing.T) {
	m, is := dd.New(99, 3), must(t)
	f := is(m.Var(50))
	for range 3 {
		if e := m.Pin(f); e != api.OK {
			t.Fatalf("P14.3: Pin: %v", e)
		}
	}
	for left := 3; left > 0; left-- {
		for i := range 6 { // more than there is room for
			is(m.Var(i))
		}
		if !isVariable(m, f, 50) || m.Live() != 1 {
			t.Fatalf("P14.1: pinned %d times, and Live is %d", left, m.Live())
		}
		if e := m.Unpin(f); e != api.OK {
			t.Fatalf("P14.3: Unpin: %v", e)
		}
	}
	if e := m.Unpin(f); e != api.ErrDdNode || m.Live() != 0 {
		t.Errorf("P14.3: Unpin of what isn't pinned: %v, Live %d", e, m.Live())
	}
	for i := range 6 {
		is(m.Var(i))
	}
	if isVariable(m, f, 50) {
		t.Error("P14.1: what isn't pinned any more is still there")
	}
}

// A part of what is pinned, and what is pinned twice over, counts once.
func TestLive(t *testing.T) {
	m, is := dd.New(4, 100), must(t)
	x := variables(t, m, 4)
	f := is(m.And(x[1], is(m.And(x[2], x[3]))))
	g := is(m.Or(x[0], f))
	for _, c := range []struct{ pin, want int }{{x[3], 1}, {f, 3}, {f, 3}, {g, 4}, {x[2], 5}, {1, 5}} {
		m.Pin(c.pin)
		if n := m.Live(); n != c.want {
			t.Errorf("P14.3: Live: %d, not %d", n, c.want)
		}
	}
	for _, c := range []struct{ unpin, want int }{{f, 5}, {g, 4}, {x[3], 4}, {f, 1}, {0, 1}, {x[2], 0}} {
		m.Unpin(c.unpin)
		if n := m.Live(); n != c.want {
			t.Errorf("P14.3: Live: %d, not %d", n, c.want)
		}
	}
}

func TestLeastRoom(t *testing.T) {
	for _, most := range []int{-1 << 62, -1, 0, 1, 2} {
		m, is := dd.New(9, most), must(t)
		x := is(m.Var(0))
		m.Pin(x)
		m.Pin(is(m.Var(1)))
		if f, e := m.Var(2); f != 0 || e != api.ErrDdNodes {
			t.Errorf("P14.2: New(9, %d): a third one: %d, %v", most, f, e)
		}
		if f, e := m.Not(x); f != 0 || e != api.ErrDdNodes {
			t.Errorf("P14.2: New(9, %d): a third one: %d, %v", most, f, e)
		}
		if !isVariable(m, x, 0) || m.Live() != 2 {
			t.Errorf("P14.6: New(9, %d): Live %d", most, m.Live())
		}
		m.Unpin(x)
		if f := is(m.Var(2)); !isVariable(m, f, 2) {
			t.Errorf("P14.2: New(9, %d): %d", most, f)
		}
	}
}

func TestMostRoom(t *testing.T) {
	for _, most := range []int{api.MaxNodes, api.MaxNodes + 1, 1 << 62} {
		m, is := dd.New(200, most), must(t)
		x := variables(t, m, 200)
		for _, f := range x {
			m.Pin(f)
		}
		made := 200
		for i := 0; made < api.MaxNodes; i++ {
			for j := i + 1; j < 200 && made < api.MaxNodes; j++ {
				m.Pin(is(m.And(x[i], x[j])))
				made++
			}
		}
		if m.Live() != api.MaxNodes {
			t.Fatalf("P14.3: New(200, %d): Live %d", most, m.Live())
		}
		for range 3 {
			if f, e := m.Or(x[0], x[1]); f != 0 || e != api.ErrDdNodes {
				t.Errorf("P14.2: New(200, %d): %d, %v", most, f, e)
			}
		}
		if m.Live() != api.MaxNodes || !isVariable(m, x[199], 199) {
			t.Errorf("P14.6: New(200, %d): Live %d", most, m.Live())
		}
	}
}

// A call is refused just where what is pinned, its operands and its answer have more nodes than there may be.
func TestJustEnoughRoom(t *testing.T) {
	r := rand.New(rand.NewSource(5))
	tried := 0
	for range 60 {
		n := 5 + r.Intn(5)
		values := [3][]bool{someValues(r, n), someValues(r, n), someValues(r, n)}
		for _, name := range []string{"Ite", "Not", "And", "Or", "Xor"} {
			m := dd.New(n, api.MaxNodes)
			f := layAll(m, n, values)[:operandsOf(name)]
			m.Pin(must(t)(ask(m, name, f)))
			need := m.Live()
			m = dd.New(n, need)
			if f = layAll(m, n, values); len(f) == 3 {
				tried++
				if got, e := ask(m, name, f[:operandsOf(name)]); got == 0 || e != api.OK {
					t.Fatalf("P14.2: %s with room for %d: %v", name, need, e)
				}
			}
			m = dd.New(n, need-1)
			if f = layAll(m, n, values); len(f) == 3 {
				if got, e := ask(m, name, f[:operandsOf(name)]); got != 0 || e != api.ErrDdNodes {
					t.Fatalf("P14.2: %s with room for %d of %d: %d, %v", name, need-1, need, got, e)
				}
				if m.Live() != liveOf(n, values) {
					t.Fatalf("P14.6: %s: Live %d", name, m.Live())
				}
			}
		}
	}
	if tried < 200 {
		t.Errorf("P14.2: only %d calls with just enough room", tried)
	}
}

// someValues makes a function as a list of its values.
func someValues(r *rand.Rand, n int) []bool {
	l := make([]bool, 1<<n)
	for i := range l {
		l[i] = r.Intn(2) == 0
	}
	return l
}

// layAll makes three functions and pins them: none, if there is no room for them.
func layAll(m *dd.Manager, n int, values [3][]bool) []int {
	var l []int
	for _, v := range values {
		f, ok := lay(m, 0, v)
		if !ok {
			return nil
		}
		l = append(l, f)
	}
	return l
}

// lay makes a function of its values (the first half is that for variable i false), and leaves just it pinned of all that it makes.
func lay(m *dd.Manager, i int, values []bool) (int, bool) {
	if len(values) == 1 {
		if values[0] {
			return 1, true
		}
		return 0, true
	}
	half := len(values) / 2
	no, ok := lay(m, i+1, values[:half])
	if !ok {
		return 0, false
	}
	yes, ok := lay(m, i+1, values[half:])
	if !ok {
		return 0, false
	}
	v, e := m.Var(i)
	if e != api.OK {
		return 0, false
	}
	f, e := m.Ite(v, yes, no)
	m.Pin(f)
	m.Unpin(no)
	m.Unpin(yes)
	return f, e == api.OK
}

// liveOf tells how many nodes three functions have together.
func liveOf(n int, values [3][]bool) int {
	m := dd.New(n, api.MaxNodes)
	layAll(m, n, values)
	return m.Live()
}
