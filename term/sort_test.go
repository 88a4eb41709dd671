package term_test

import (
	"math"
	"math/big"
	"slices"
	"testing"

	"plait/api"
	"plait/term"
)

// row is one of the chapter's table of sorts.
type row struct {
	ops      []int
	arity    int
	operands func(l []int) bool
	numbers  func(p, q int, l []int) bool
	sort     func(p, q int, l []int) *big.Int
}

func number(n int) *big.Int { return big.NewInt(int64(n)) }

func bools(l []int) bool { return !slices.ContainsFunc(l, func(s int) bool { return s != 0 }) }

func words(l []int) bool { return !slices.Contains(l, 0) }

func wordsOfOneWidth(l []int) bool { return words(l) && len(slices.Compact(slices.Clone(l))) == 1 }

func noNumbers(p, q int, _ []int) bool { return p == 0 && q == 0 }

func fromNought(p, q int, _ []int) bool { return p >= 0 && q == 0 }

func toBool(_, _ int, _ []int) *big.Int { return number(0) }

func theFirst(_, _ int, l []int) *big.Int { return number(l[0]) }

func table() []row {
	return []row{
		{[]int{api.OpNot}, 1, bools, noNumbers, toBool},
		{[]int{api.OpAnd, api.OpOr, api.OpXor, api.OpImplies}, 2, bools, noNumbers, toBool},
		{[]int{api.OpEq}, 2, func(l []int) bool { return l[0] == l[1] }, noNumbers, toBool},
		{[]int{api.OpIte}, 3, func(l []int) bool { return l[0] == 0 && l[1] == l[2] }, noNumbers,
			func(_, _ int, l []int) *big.Int { return number(l[2]) }},
		{[]int{api.OpBvNot, api.OpBvNeg}, 1, wordsOfOneWidth, noNumbers, theFirst},
		{[]int{api.OpBvAnd, api.OpBvOr, api.OpBvXor, api.OpBvNand, api.OpBvNor, api.OpBvXnor, api.OpBvAdd, api.OpBvSub, api.OpBvMul,
			api.OpBvUdiv, api.OpBvUrem, api.OpBvSdiv, api.OpBvSrem, api.OpBvSmod, api.OpBvShl, api.OpBvLshr, api.OpBvAshr},
			2, wordsOfOneWidth, noNumbers, theFirst},
		{[]int{api.OpUlt, api.OpUle, api.OpUgt, api.OpUge, api.OpSlt, api.OpSle, api.OpSgt, api.OpSge}, 2, wordsOfOneWidth, noNumbers, toBool},
		{[]int{api.OpComp}, 2, wordsOfOneWidth, noNumbers, func(_, _ int, _ []int) *big.Int { return number(1) }},
		{[]int{api.OpConcat}, 2, words, noNumbers, func(_, _ int, l []int) *big.Int { return number(l[0] + l[1]) }},
		{[]int{api.OpExtract}, 1, words, func(p, q int, l []int) bool { return l[0] > p && p >= q && q >= 0 },
			func(p, q int, _ []int) *big.Int { return number(p - q + 1) }},
		{[]int{api.OpZext, api.OpSext}, 1, words, fromNought,
			func(p, _ int, l []int) *big.Int { return new(big.Int).Add(number(l[0]), number(p)) }},
		{[]int{api.OpRotl, api.OpRotr}, 1, words, fromNought, theFirst},
		{[]int{api.OpRepeat}, 1, words, func(p, q int, _ []int) bool { return p >= 1 && q == 0 },
			func(p, _ int, l []int) *big.Int { return new(big.Int).Mul(number(l[0]), number(p)) }},
	}
}

// rows: the table by operator; one without operands, or no operator, has none.
func rows() map[int]*row {
	m := map[int]*row{}
	for _, r := range table() {
		for _, op := range r.ops {
			m[op] = &r
		}
	}
	return m
}

func (r *row) answer(p, q int, l []int) (int, api.Errno) {
	if r == nil {
		return 0, api.ErrTermOp
	}
	noSort := func(s int) bool { return s < 0 || s > api.MaxWidth }
	if len(l) != r.arity || slices.ContainsFunc(l, noSort) || !r.operands(l) || !r.numbers(p, q, l) {
		return 0, api.ErrTermSort
	}
	s := r.sort(p, q, l)
	if s.Cmp(number(api.MaxWidth)) > 0 {
		return 0, api.ErrTermWidth
	}
	return int(s.Int64()), api.OK
}

// operators: all of api's, those just outside, and far ones.
func operators() []int {
	l := []int{math.MinInt, -api.OpAnd, 1 << 32, 1<<32 + api.OpAnd, math.MaxInt}
	for op := -1; op <= api.OpRepeat+2; op++ {
		l = append(l, op)
	}
	return l
}

// lists: all lists of up to so many of these.
func lists(of []int, most int) [][]int {
	all := [][]int{nil}
	for from := 0; most > 0; most-- {
		to := len(all)
		for _, l := range all[from:to] {
			for _, x := range of {
				all = append(all, append(slices.Clone(l), x))
			}
		}
		from = to
	}
	return all
}

func checkSort(t *testing.T, r *row, op, p, q int, l []int) {
	t.Helper()
	want, wantErr := r.answer(p, q, l)
	if got, e := term.Sort(op, p, q, l); got != want || e != wantErr {
		t.Fatalf("P3.1: Sort(%d, %d, %d, %v): %d, %v; should be %d, %v", op, p, q, l, got, e, want, wantErr)
	}
}

func TestTableHasAllOperators(t *testing.T) {
	if m := rows(); len(m) != api.OpRepeat-api.OpVar || m[api.OpConst] != nil || m[api.OpVar] != nil {
		t.Fatalf("the test's table has %d operators", len(m))
	}
}

func TestArity(t *testing.T) {
	m := rows()
	for _, op := range operators() {
		want := -1
		if op == api.OpConst || op == api.OpVar {
			want = 0
		} else if r := m[op]; r != nil {
			want = r.arity
		}
		if got := term.Arity(op); got != want {
			t.Errorf("P3.1: Arity(%d): %d, should be %d", op, got, want)
		}
	}
}

func TestSortOfEdges(t *testing.T) {
	m := rows()
	numbers := []int{math.MinInt, -1, 0, 1, 3, 4, 127, 128, math.MaxInt}
	all := lists([]int{math.MinInt, -1, 0, 1, 4, 64, 65, 127, 128, 129, math.MaxInt}, 3)
	all = append(all, []int{0, 0, 0, 0}, []int{4, 4, 4, 4}, []int{0, 4, 4, 4}, make([]int, 1000))
	for _, op := range operators() {
		for _, l := range all {
			for _, p := range numbers {
				for _, q := range numbers {
					checkSort(t, m[op], op, p, q, l)
				}
			}
		}
	}
}

func TestSortOfAllWidths(t *testing.T) {
	m := rows()
	for op := api.OpNot; op <= api.OpRepeat; op++ {
		for v := -1; v <= api.MaxWidth+1; v++ {
			for w := -1; w <= api.MaxWidth+1; w++ {
				l := [][]int{{v}, {v, w}, {0, v, w}}[m[op].arity-1]
				checkSort(t, m[op], op, 0, 0, l)
				if len(l) == 1 {
					checkSort(t, m[op], op, w, 0, l)
					checkSort(t, m[op], op, w, 1, l)
					checkSort(t, m[op], op, w, v/2, l)
					checkSort(t, m[op], op, w, w, l)
				}
			}
		}
	}
}

// Sums and products of these wrap round to what would be a width.
func TestSortOfFarNumbers(t *testing.T) {
	m := rows()
	for _, op := range []int{api.OpExtract, api.OpZext, api.OpSext, api.OpRotl, api.OpRotr, api.OpRepeat} {
		for w := 1; w <= api.MaxWidth; w++ {
			for shift := 7; shift < 63; shift++ {
				for _, p := range []int{1<<shift - 1, 1 << shift, 1<<shift + 1, math.MaxInt / w, math.MaxInt/w + 1, math.MaxInt - w, math.MaxInt - w + 1} {
					for _, q := range []int{0, 1, p, -p} {
						checkSort(t, m[op], op, p, q, []int{w})
						checkSort(t, m[op], op, -p, q, []int{w})
					}
				}
			}
		}
	}
}

func TestSortLeavesItsList(t *testing.T) {
	for op := api.OpConst; op <= api.OpRepeat; op++ {
		for arity := range 4 {
			room := []int{0, 4, 4, 9, 9}
			want := slices.Clone(room)
			term.Sort(op, 1, 0, room[:arity])
			term.Sort(op, 0, 0, room[1:1+arity])
			if !slices.Equal(room, want) {
				t.Errorf("P3.1: Sort(%d, ..) made %v of %v", op, room, want)
			}
		}
	}
}
