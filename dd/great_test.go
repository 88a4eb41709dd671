package dd_test

import (
	"math/big"
	"slices"
	"testing"

	"plait/api"
	"plait/dd"
)

// power tells 2^n.
func power(n int) *big.Int { return new(big.Int).Lsh(big.NewInt(1), uint(n)) }

// fold puts some variables together by halves.
func fold(t *testing.T, m *dd.Manager, name string, from, to int) int {
	t.Helper()
	if to-from == 1 {
		return must(t)(m.Var(from))
	}
	middle := (from + to) / 2
	f := fold(t, m, name, from, middle)
	m.Pin(f)
	g := fold(t, m, name, middle, to)
	both := must(t)(ask(m, name, []int{f, g}))
	m.Unpin(f)
	return both
}

func TestManyVariables(t *testing.T) {
	for _, n := range []int{1, 2, 18, 58, 59, 60, 63, 64, 65, 117, 118, 119, 128, 177, 1000, 4095, 4096} {
		m := dd.New(n, api.MaxNodes)
		all, one := power(n), big.NewInt(1)
		holdCount(t, m, 0, 0, new(big.Int))
		holdCount(t, m, 1, 0, all)
		holdCount(t, m, must(t)(m.Var(n/2)), 1, power(n-1))
		holdCount(t, m, fold(t, m, "And", 0, n), n, one)
		holdCount(t, m, fold(t, m, "Or", 0, n), n, new(big.Int).Sub(all, one))
		holdCount(t, m, fold(t, m, "Xor", 0, n), 2*n-1, power(n-1))
	}
}

// holdCount holds a diagram's Size and Count against what they must be.
func holdCount(t *testing.T, m *dd.Manager, f, size int, count *big.Int) {
	t.Helper()
	if got, e := m.Size(f); got != size || e != api.OK {
		t.Errorf("P14.3: Size: %d, %v, not %d", got, e, size)
	}
	if got, e := m.Count(f); got != count.String() || e != api.OK {
		t.Errorf("P14.4: Count: %.40s.., %v, not %.40s..", got, e, count.String())
	}
}

func TestLongWays(t *testing.T) {
	const n = 4096
	m := dd.New(n, api.MaxNodes)
	xor := fold(t, m, "Xor", 0, n)
	want := make([]int, n)
	for i := range want {
		want[i] = -(i + 1)
	}
	want[n-1] = n
	if got, ok, e := m.Some(xor); !slices.Equal(got, want) || !ok || e != api.OK {
		t.Errorf("P14.4: Some: %v.., %v, %v", got[:3], ok, e)
	}
	in := make([]bool, n)
	for i := range 9 {
		if v, e := m.Eval(xor, in); v != (i%2 == 1) || e != api.OK {
			t.Errorf("P14.4: Eval with %d true: %v, %v", i, v, e)
		}
		in[(i*511)%n] = true
	}
}

// At least k of n: k times (n - k + 1) nodes, and a sum of binomials.
func TestAtLeast(t *testing.T) {
	const n = 90
	m, is := dd.New(n, api.MaxNodes), must(t)
	least := []int{1} // by k: at least k of the variables from i on
	for range n {
		least = append(least, 0)
	}
	for i := n - 1; i >= 0; i-- {
		for k := n; k > 0; k-- {
			f := is(m.Ite(is(m.Var(i)), least[k-1], least[k]))
			m.Pin(f)
			m.Unpin(least[k])
			least[k] = f
		}
	}
	sum := new(big.Int)
	for k := n; k > 0; k-- {
		sum.Add(sum, new(big.Int).Binomial(n, int64(k)))
		holdCount(t, m, least[k], k*(n-k+1), sum)
	}
}

// One word below another one, bit by bit from the lowest one: each step makes a diagram of three nodes more.
func TestBelow(t *testing.T) {
	const n = 2048
	m, is := dd.New(2*n, api.MaxNodes), must(t)
	below := 0
	for bit := n - 1; bit >= 0; bit-- {
		x, y := is(m.Var(2*bit)), is(m.Var(2*bit+1))
		m.Pin(x)
		m.Pin(y)
		same := is(m.Not(is(m.Xor(x, y))))
		f := is(m.Ite(same, below, y))
		m.Pin(f)
		m.Unpin(x)
		m.Unpin(y)
		m.Unpin(below)
		below = f
	}
	holdCount(t, m, below, 3*n-1, new(big.Int).Sub(power(2*n-1), power(n-1)))
	if m.Live() != 3*n-1 {
		t.Errorf("P14.3: Live: %d", m.Live())
	}
}

// However a function comes to be, it is one number: sums of four bits each, in two orders.
func TestOneNumber(t *testing.T) {
	m, is := dd.New(12, api.MaxNodes), must(t)
	x := variables(t, m, 12)
	add := func(a, b []int) []int {
		var out []int
		carry := 0
		for i := range a {
			either := is(m.Xor(a[i], b[i]))
			out = append(out, is(m.Xor(either, carry)))
			carry = is(m.Or(is(m.And(a[i], b[i])), is(m.And(either, carry))))
		}
		return out
	}
	left := add(add(x[:4], x[4:8]), x[8:])
	right := add(x[:4], add(x[8:], x[4:8]))
	if !slices.Equal(left, right) {
		t.Errorf("P14.5: %v, %v", left, right)
	}
	for i, f := range left {
		twice := is(m.Not(is(m.Not(f))))
		other := is(m.Ite(f, 0, 1))
		if twice != f || other == f || is(m.Xor(f, other)) != 1 || is(m.And(f, other)) != 0 {
			t.Errorf("P14.5: bit %d: %d, %d, %d", i, f, twice, other)
		}
	}
}
