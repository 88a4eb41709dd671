package eval_test

import (
	"fmt"
	"math"
	"math/rand"
	"slices"
	"testing"

	"plait/api"
	"plait/bv"
	"plait/eval"
	"plait/term"
)

// The reference of these tests: for each operator a function, written from the chapter's words; the sorts are term's, the words' meaning is bv's.

type applied func(p, q int, l []api.Bits) api.Bits

var (
	yes = api.Bits{Lo: 1}
	no  = api.Bits{}
)

func truth(b bool) api.Bits {
	if b {
		return yes
	}
	return no
}

func must(v api.Bits, e api.Errno) api.Bits {
	if e != api.OK {
		panic(fmt.Sprintf("the reference is refused: %v", e))
	}
	return v
}

func references() map[int]applied {
	refs := map[int]applied{
		api.OpNot:     func(p, q int, l []api.Bits) api.Bits { return truth(l[0] == no) },
		api.OpAnd:     func(p, q int, l []api.Bits) api.Bits { return truth(l[0].Lo+l[1].Lo == 2) },
		api.OpOr:      func(p, q int, l []api.Bits) api.Bits { return truth(l[0].Lo+l[1].Lo > 0) },
		api.OpXor:     func(p, q int, l []api.Bits) api.Bits { return truth(l[0].Lo+l[1].Lo == 1) },
		api.OpImplies: func(p, q int, l []api.Bits) api.Bits { return truth(l[0].Lo <= l[1].Lo) },
		api.OpIte: func(p, q int, l []api.Bits) api.Bits {
			return l[2-l[0].Lo]
		},
		api.OpEq: func(p, q int, l []api.Bits) api.Bits {
			if l[0].W == 0 {
				return truth(l[0].Lo == l[1].Lo)
			}
			return must(bv.Two(api.OpEq, l[0], l[1]))
		},
		api.OpConcat:  func(p, q int, l []api.Bits) api.Bits { return must(bv.Concat(l[0], l[1])) },
		api.OpExtract: func(p, q int, l []api.Bits) api.Bits { return must(bv.Extract(l[0], p, q)) },
		api.OpZext:    func(p, q int, l []api.Bits) api.Bits { return must(bv.Extend(l[0], p, false)) },
		api.OpSext:    func(p, q int, l []api.Bits) api.Bits { return must(bv.Extend(l[0], p, true)) },
		api.OpRotl:    func(p, q int, l []api.Bits) api.Bits { return must(bv.Rotate(l[0], p, true)) },
		api.OpRotr:    func(p, q int, l []api.Bits) api.Bits { return must(bv.Rotate(l[0], p, false)) },
		api.OpRepeat:  func(p, q int, l []api.Bits) api.Bits { return must(bv.Repeat(l[0], p)) },
	}
	for _, op := range []int{api.OpBvNot, api.OpBvNeg} {
		refs[op] = func(p, q int, l []api.Bits) api.Bits { return must(bv.One(op, l[0])) }
	}
	for _, op := range []int{
		api.OpBvAnd, api.OpBvOr, api.OpBvXor, api.OpBvNand, api.OpBvNor, api.OpBvXnor, api.OpBvAdd, api.OpBvSub, api.OpBvMul,
		api.OpBvUdiv, api.OpBvUrem, api.OpBvSdiv, api.OpBvSrem, api.OpBvSmod, api.OpBvShl, api.OpBvLshr, api.OpBvAshr,
		api.OpUlt, api.OpUle, api.OpUgt, api.OpUge, api.OpSlt, api.OpSle, api.OpSgt, api.OpSge, api.OpComp,
	} {
		refs[op] = func(p, q int, l []api.Bits) api.Bits { return must(bv.Two(op, l[0], l[1])) }
	}
	return refs
}

func widths(l []api.Bits) []int {
	var ws []int
	for _, v := range l {
		ws = append(ws, v.W)
	}
	return ws
}

func allRight(l []api.Bits) bool {
	return !slices.ContainsFunc(l, func(v api.Bits) bool { return !bv.Right(v) })
}

func applyReference(refs map[int]applied, op, p, q int, l []api.Bits) (api.Bits, api.Errno) {
	if refs[op] == nil {
		return api.Bits{}, api.ErrTermOp
	}
	if !allRight(l) {
		return api.Bits{}, api.ErrTermSort
	}
	if _, e := term.Sort(op, p, q, widths(l)); e != api.OK {
		return api.Bits{}, e
	}
	return refs[op](p, q, l), api.OK
}

func checkApply(t *testing.T, refs map[int]applied, op, p, q int, l []api.Bits) {
	t.Helper()
	got, e := eval.Apply(op, p, q, l)
	want, we := applyReference(refs, op, p, q, l)
	if got != want || e != we {
		t.Errorf("P4.1: Apply(%d, %d, %d, %+v): %+v, %v; wanted %+v, %v", op, p, q, l, got, e, want, we)
	}
}

func word(t *testing.T, text string) api.Bits {
	t.Helper()
	v, e := bv.Parse(text)
	if e != api.OK {
		t.Fatalf("%s: %v", text, e)
	}
	return v
}

// valuesOf are right values of a sort: all, if they are few, else the edges and some others, always the same.
func valuesOf(sort int) []api.Bits {
	var l []api.Bits
	if sort <= 3 {
		for n := range uint64(1) << max(sort, 1) {
			l = append(l, api.Bits{W: sort, Lo: n})
		}
		return l
	}
	source := rand.New(rand.NewSource(int64(sort)))
	for _, x := range [][2]uint64{{0, 0}, {1, 0}, {2, 0}, {uint64(sort), 0}, {math.MaxUint64, math.MaxUint64}, {math.MaxUint64 - 1, math.MaxUint64}, {1 << 63, 0}, {0, 1}, {source.Uint64(), source.Uint64()}} {
		v, _ := bv.New(sort, x[0], x[1])
		l = append(l, v)
	}
	top, _ := bv.Extend(api.Bits{W: 1, Lo: 1}, sort-1, false)
	top, _ = bv.Rotate(top, sort-1, true)
	return append(l, top)
}

func wrongValues() []api.Bits {
	return []api.Bits{
		{W: -1}, {W: -4, Lo: 1}, {W: 129}, {W: math.MaxInt}, {W: math.MinInt}, {Lo: 2}, {Hi: 1}, {Lo: 1, Hi: 1},
		{W: 1, Lo: 2}, {W: 3, Lo: 8}, {W: 3, Hi: 1}, {W: 64, Hi: 1}, {W: 100, Hi: 1 << 36}, {W: 127, Hi: 1 << 63},
	}
}

func TestApplyOnBools(t *testing.T) {
	for _, x := range []struct {
		op   int
		want string // of false false, false true, true false, true true
	}{
		{api.OpAnd, "0001"}, {api.OpOr, "0111"}, {api.OpXor, "0110"}, {api.OpImplies, "1101"}, {api.OpEq, "1001"},
	} {
		for i, digit := range x.want {
			l := []api.Bits{truth(i >= 2), truth(i%2 == 1)}
			if got, e := eval.Apply(x.op, 0, 0, l); e != api.OK || got != truth(digit == '1') {
				t.Errorf("P4.1: Apply(%d) of %v: %+v, %v", x.op, l, got, e)
			}
		}
	}
	for _, b := range []bool{false, true} {
		if got, e := eval.Apply(api.OpNot, 0, 0, []api.Bits{truth(b)}); e != api.OK || got != truth(!b) {
			t.Errorf("P4.1: OpNot of %v: %+v, %v", b, got, e)
		}
	}
	for i := range 8 {
		l := []api.Bits{truth(i&1 > 0), truth(i&2 > 0), truth(i&4 > 0)}
		want := l[2]
		if i&1 > 0 {
			want = l[1]
		}
		if got, e := eval.Apply(api.OpIte, 0, 0, l); e != api.OK || got != want {
			t.Errorf("P4.1: OpIte of %v: %+v, %v", l, got, e)
		}
	}
}

func TestApplyExamples(t *testing.T) {
	a, b, one := word(t, "#b1001"), word(t, "#b0010"), word(t, "#b1")
	for _, x := range []struct {
		op, p, q int
		l        []api.Bits
		want     string
	}{
		{api.OpBvNot, 0, 0, []api.Bits{a}, "#b0110"},
		{api.OpBvNeg, 0, 0, []api.Bits{a}, "#b0111"},
		{api.OpBvAdd, 0, 0, []api.Bits{a, a}, "#b0010"},
		{api.OpBvSub, 0, 0, []api.Bits{a, b}, "#b0111"},
		{api.OpBvSub, 0, 0, []api.Bits{b, a}, "#b1001"},
		{api.OpBvUdiv, 0, 0, []api.Bits{a, b}, "#b0100"},
		{api.OpBvSdiv, 0, 0, []api.Bits{a, b}, "#b1101"},
		{api.OpBvShl, 0, 0, []api.Bits{a, b}, "#b0100"},
		{api.OpBvAshr, 0, 0, []api.Bits{a, b}, "#b1110"},
		{api.OpUlt, 0, 0, []api.Bits{a, b}, "false"},
		{api.OpSlt, 0, 0, []api.Bits{a, b}, "true"},
		{api.OpEq, 0, 0, []api.Bits{a, b}, "false"},
		{api.OpEq, 0, 0, []api.Bits{a, a}, "true"},
		{api.OpComp, 0, 0, []api.Bits{a, a}, "#b1"},
		{api.OpIte, 0, 0, []api.Bits{yes, a, b}, "#b1001"},
		{api.OpIte, 0, 0, []api.Bits{no, a, b}, "#b0010"},
		{api.OpConcat, 0, 0, []api.Bits{a, one}, "#b10011"},
		{api.OpConcat, 0, 0, []api.Bits{one, a}, "#b11001"},
		{api.OpExtract, 3, 1, []api.Bits{a}, "#b100"},
		{api.OpZext, 2, 0, []api.Bits{a}, "#b001001"},
		{api.OpSext, 2, 0, []api.Bits{a}, "#b111001"},
		{api.OpSext, 0, 0, []api.Bits{a}, "#b1001"},
		{api.OpRotl, 1, 0, []api.Bits{b}, "#b0100"},
		{api.OpRotr, 1, 0, []api.Bits{b}, "#b0001"},
		{api.OpRotl, math.MaxInt, 0, []api.Bits{b}, "#b0001"},
		{api.OpRepeat, 3, 0, []api.Bits{b}, "#b001000100010"},
	} {
		got, e := eval.Apply(x.op, x.p, x.q, x.l)
		if want := word(t, x.want); e != api.OK || got != want {
			t.Errorf("P4.1: Apply(%d, %d, %d, %+v): %+v, %v; wanted %s", x.op, x.p, x.q, x.l, got, e, x.want)
		}
	}
}

// numbersFor are P and Q on both sides of the table's edges.
func numbersFor(w int) [][2]int {
	l := [][2]int{{0, 0}, {0, 1}, {0, -1}, {-1, 0}, {1, 0}, {1, 1}, {2, 1}, {1, 2}, {2, 0}, {3, 0}, {w, 0}, {w - 1, 0}, {w - 1, w - 1}, {w, w}, {w + 1, 0}, {128 - w, 0}, {129 - w, 0}, {1 << 32, 0}, {math.MaxInt, 0}, {math.MinInt, 0}, {math.MinInt, math.MinInt}, {math.MaxInt, math.MaxInt}}
	if w > 0 {
		l = append(l, [2]int{128 / w, 0}, [2]int{128/w + 1, 0}, [2]int{w - 1, w / 2})
	}
	return l
}

func TestApplyOperators(t *testing.T) {
	refs := references()
	for op := -2; op <= api.OpRepeat+2; op++ {
		for _, sort := range []int{0, 1, 2, 3, 4, 63, 64, 65, 127, 128} {
			values := valuesOf(sort)
			for i, a := range values {
				for _, n := range numbersFor(sort) {
					checkApply(t, refs, op, n[0], n[1], []api.Bits{a})
					checkApply(t, refs, op, n[0], n[1], []api.Bits{a, values[(i+1)%len(values)]})
				}
				for _, b := range values {
					checkApply(t, refs, op, 0, 0, []api.Bits{a, b})
					checkApply(t, refs, op, 0, 0, []api.Bits{yes, a, b})
					checkApply(t, refs, op, 0, 0, []api.Bits{no, a, b})
				}
			}
		}
	}
}

func TestApplyOtherSorts(t *testing.T) {
	refs := references()
	sorts := []int{0, 1, 4, 64, 65, 128}
	for op := -2; op <= api.OpRepeat+2; op++ {
		checkApply(t, refs, op, 0, 0, nil)
		checkApply(t, refs, op, 0, 0, []api.Bits{})
		for _, s := range sorts {
			for _, r := range sorts {
				a, b := valuesOf(s)[1], valuesOf(r)[1]
				checkApply(t, refs, op, 0, 0, []api.Bits{a, b})
				checkApply(t, refs, op, 0, 0, []api.Bits{yes, a, b})
				checkApply(t, refs, op, 0, 0, []api.Bits{a, b, b})
				checkApply(t, refs, op, 0, 0, []api.Bits{a, b, a, b})
			}
		}
	}
	for _, op := range []int{math.MinInt, math.MaxInt, 1 << 32, 1<<32 + api.OpNot} {
		checkApply(t, refs, op, 0, 0, []api.Bits{yes})
	}
}

func TestApplyWrongValues(t *testing.T) {
	refs := references()
	for op := -2; op <= api.OpRepeat+2; op++ {
		for _, wrong := range wrongValues() {
			for _, right := range []api.Bits{yes, {W: 1, Lo: 1}, {W: 3, Lo: 5}, {W: 64}, {W: 128}, {W: wrong.W}} {
				for _, p := range []int{0, 1, 129, -1} {
					checkApply(t, refs, op, p, 0, []api.Bits{wrong})
					checkApply(t, refs, op, p, 0, []api.Bits{right, wrong})
					checkApply(t, refs, op, p, 0, []api.Bits{wrong, right})
					checkApply(t, refs, op, p, 0, []api.Bits{wrong, wrong})
				}
				checkApply(t, refs, op, 0, 0, []api.Bits{yes, right, wrong})
				checkApply(t, refs, op, 0, 0, []api.Bits{no, right, wrong})
				checkApply(t, refs, op, 0, 0, []api.Bits{yes, wrong, right})
				checkApply(t, refs, op, 0, 0, []api.Bits{no, wrong, right})
				checkApply(t, refs, op, 0, 0, []api.Bits{wrong, right, right})
			}
		}
	}
}

func TestApplyErrorsInOrder(t *testing.T) {
	wrong := api.Bits{W: 100, Hi: 1 << 36}
	for _, x := range []struct {
		what  string
		op, p int
		l     []api.Bits
		want  api.Errno
	}{
		{"no operator of a wrong value", 0, 0, []api.Bits{wrong}, api.ErrTermOp},
		{"OpConst of too many", api.OpConst, 1, []api.Bits{wrong, wrong}, api.ErrTermOp},
		{"OpVar of nothing", api.OpVar, 0, nil, api.ErrTermOp},
		{"too wide a wrong value", api.OpConcat, 0, []api.Bits{wrong, {W: 100}}, api.ErrTermSort},
		{"too wide, by a number", api.OpZext, 29, []api.Bits{wrong}, api.ErrTermSort},
		{"too wide a right value", api.OpConcat, 0, []api.Bits{{W: 100}, {W: 100}}, api.ErrTermWidth},
		{"too many of it", api.OpRepeat, 2, []api.Bits{{W: 65}}, api.ErrTermWidth},
		{"a right Bool where a word must stand", api.OpBvNot, 0, []api.Bits{yes}, api.ErrTermSort},
		{"a word of one bit where a Bool must stand", api.OpNot, 0, []api.Bits{{W: 1, Lo: 1}}, api.ErrTermSort},
	} {
		if got, e := eval.Apply(x.op, x.p, 0, x.l); e != x.want || got != (api.Bits{}) {
			t.Errorf("P4.1: %s: %+v, %v; wanted nothing and %v", x.what, got, e, x.want)
		}
	}
}

func TestApplyLeavesItsValues(t *testing.T) {
	spare := api.Bits{W: 77, Lo: 7, Hi: 7}
	for op := range api.OpRepeat + 1 {
		for n := range 4 {
			l := []api.Bits{{W: 3, Lo: 5}, {W: 3, Lo: 2}, {W: 3, Lo: 6}, spare, spare}
			if op == api.OpIte {
				l[0] = yes
			}
			kept := slices.Clone(l)
			eval.Apply(op, 1, 0, l[:n])
			eval.Apply(op, 0, 0, l[:n])
			if !slices.Equal(l, kept) {
				t.Errorf("P4.1: Apply(%d) of %d values changed them: %+v", op, n, l)
			}
		}
	}
}
