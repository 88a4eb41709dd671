package bv_test

import (
	"fmt"
	"math"
	"math/big"
	"math/rand"
	"testing"

	"plait/api"
	"plait/bv"
)

// The reference of these tests is arithmetic on numbers of any length, written from the chapter's words.

var edgeWidths = []int{1, 2, 3, 4, 63, 64, 65, 127, 128}

func power(n int) *big.Int { return new(big.Int).Lsh(big.NewInt(1), uint(n)) }

func modulo(n *big.Int, w int) *big.Int {
	return new(big.Int).Mod(n, power(w)) // of a number below 0 too: 0 to 2^w - 1
}

// word is n modulo 2^w, made without the package under test.
func word(w int, n *big.Int) api.Bits {
	m := modulo(n, w)
	lo := modulo(m, 64)
	hi := new(big.Int).Rsh(m, 64)
	return api.Bits{W: w, Lo: lo.Uint64(), Hi: hi.Uint64()}
}

func small(w int, n int64) api.Bits { return word(w, big.NewInt(n)) }

func number(a api.Bits) *big.Int {
	n := new(big.Int).SetUint64(a.Hi)
	n.Lsh(n, 64)
	return n.Add(n, new(big.Int).SetUint64(a.Lo))
}

func signedNumber(a api.Bits) *big.Int {
	n := number(a)
	if n.Bit(a.W-1) == 1 {
		n.Sub(n, power(a.W))
	}
	return n
}

// samples are all words of w bits, if they are few, else the edges and some others, always the same.
func samples(w int) []api.Bits {
	var list []api.Bits
	if w <= 4 {
		for n := range int64(1) << w {
			list = append(list, small(w, n))
		}
		return list
	}
	for _, n := range []int64{0, 1, 2, 3, 7, -1, -2, -3, int64(w) - 1, int64(w), int64(w) + 1} {
		list = append(list, small(w, n))
	}
	for _, k := range []int{w - 1, w - 2, w / 2, 62, 63, 64, 65} {
		if k < w {
			list = append(list, word(w, power(k)), word(w, new(big.Int).Sub(power(k), big.NewInt(1))), word(w, new(big.Int).Add(power(k), big.NewInt(1))))
		}
	}
	source := rand.New(rand.NewSource(int64(w)))
	for range 12 {
		n := new(big.Int).Rand(source, power(w))
		list = append(list, word(w, n), word(w, n.Rsh(n, uint(source.Intn(w)))))
	}
	return list
}

// noWords are the Bits that aren't right, and the Bools.
func noWords() []api.Bits { return append(wrongBits(), api.Bits{}, api.Bits{Lo: 1}) }

func wrongBits() []api.Bits {
	return []api.Bits{
		{W: -1}, {W: -1, Lo: 1}, {W: -64, Lo: 1}, {W: 129}, {W: 129, Lo: 1}, {W: 192, Lo: 1, Hi: 1},
		{W: math.MaxInt}, {W: math.MinInt}, {W: math.MinInt + 1},
		{Lo: 2}, {Lo: 3}, {Hi: 1}, {Lo: 1, Hi: 1}, {Lo: math.MaxUint64},
		{W: 1, Lo: 2}, {W: 3, Lo: 8}, {W: 3, Lo: 1 << 63}, {W: 3, Hi: 1}, {W: 63, Lo: 1 << 63}, {W: 63, Hi: 1 << 63},
		{W: 64, Hi: 1}, {W: 64, Hi: 1 << 63}, {W: 65, Hi: 2}, {W: 65, Hi: 1 << 63}, {W: 127, Hi: 1 << 63},
	}
}

func checkBits(t *testing.T, what string, got api.Bits, e api.Errno, want api.Bits) {
	t.Helper()
	if e != api.OK || got != want {
		t.Errorf("%s: %+v, %v; wanted %+v", what, got, e, want)
	}
}

func checkRefused(t *testing.T, what string, got api.Bits, e, want api.Errno) {
	t.Helper()
	if e != want || got != (api.Bits{}) {
		t.Errorf("%s: %+v, %v; wanted nothing and %v", what, got, e, want)
	}
}

func TestNew(t *testing.T) {
	for _, w := range []int{0, -1, -64, 129, 130, 256, math.MaxInt, math.MinInt} {
		got, e := bv.New(w, 1, 1)
		checkRefused(t, fmt.Sprintf("P1.1: New(%d)", w), got, e, api.ErrBvWidth)
	}
	for w := 1; w <= api.MaxWidth; w++ {
		for _, x := range [][2]uint64{{0, 0}, {1, 0}, {0, 1}, {math.MaxUint64, math.MaxUint64}, {1 << 63, 1 << 63}, {0xaaaaaaaaaaaaaaaa, 0x5555555555555555}} {
			got, e := bv.New(w, x[0], x[1])
			want := word(w, number(api.Bits{Lo: x[0], Hi: x[1]}))
			checkBits(t, fmt.Sprintf("P1.1: New(%d, %x, %x)", w, x[0], x[1]), got, e, want)
		}
	}
}

func TestRight(t *testing.T) {
	for _, a := range wrongBits() {
		if bv.Right(a) {
			t.Errorf("P1.1: Right(%+v)", a)
		}
	}
	for w := 1; w <= api.MaxWidth; w++ {
		if a := small(w, -1); !bv.Right(a) {
			t.Errorf("P1.1: not Right(%+v)", a)
		}
		if over := number(small(w, -1)); w < api.MaxWidth {
			a := word(w+1, over.Add(over, big.NewInt(1))) // bit w alone
			a.W = w
			if bv.Right(a) {
				t.Errorf("P1.1: Right(%+v)", a)
			}
		}
	}
	for _, a := range []api.Bits{{}, {Lo: 1}, {W: 1}, {W: 128, Lo: math.MaxUint64, Hi: math.MaxUint64}} {
		if !bv.Right(a) {
			t.Errorf("P1.1: not Right(%+v)", a)
		}
	}
}

func TestBool(t *testing.T) {
	if got := bv.Bool(true); got != (api.Bits{Lo: 1}) {
		t.Errorf("P1.1: Bool(true): %+v", got)
	}
	if got := bv.Bool(false); got != (api.Bits{}) {
		t.Errorf("P1.1: Bool(false): %+v", got)
	}
}

func TestBit(t *testing.T) {
	for _, w := range edgeWidths {
		for _, a := range samples(w) {
			for i := range w {
				if got, e := bv.Bit(a, i); e != api.OK || got != (number(a).Bit(i) == 1) {
					t.Errorf("P1.1: Bit(%+v, %d): %v, %v", a, i, got, e)
				}
			}
			for _, i := range []int{-1, -64, w, w + 1, 128, math.MaxInt, math.MinInt} {
				if got, e := bv.Bit(a, i); e != api.ErrBvPlace || got {
					t.Errorf("P1.1: Bit(%+v, %d): %v, %v", a, i, got, e)
				}
			}
		}
	}
	for _, a := range noWords() {
		for _, i := range []int{0, -1, 1, 128, math.MaxInt} {
			if got, e := bv.Bit(a, i); e != api.ErrBvWidth || got {
				t.Errorf("P1.1: Bit(%+v, %d): %v, %v", a, i, got, e)
			}
		}
	}
}

func TestOne(t *testing.T) {
	for _, w := range edgeWidths {
		for _, a := range samples(w) {
			n := number(a)
			got, e := bv.One(api.OpBvNot, a)
			checkBits(t, fmt.Sprintf("P1.2: OpBvNot of %+v", a), got, e, word(w, new(big.Int).Not(n)))
			got, e = bv.One(api.OpBvNeg, a)
			checkBits(t, fmt.Sprintf("P1.2: OpBvNeg of %+v", a), got, e, word(w, n.Sub(power(w), n)))
		}
	}
	for _, op := range otherOperators(api.OpBvNot, api.OpBvNeg) {
		got, e := bv.One(op, small(8, 3))
		checkRefused(t, fmt.Sprintf("P1.2: operator %d", op), got, e, api.ErrBvOp)
	}
	for _, a := range noWords() {
		for _, op := range []int{api.OpBvNot, api.OpBvNeg, api.OpBvAnd, api.OpNot, 0, -1} {
			got, e := bv.One(op, a)
			checkRefused(t, fmt.Sprintf("P1.2: operator %d of %+v", op, a), got, e, api.ErrBvWidth)
		}
	}
}

// otherOperators are all numbers of operators but these, and some that are none.
func otherOperators(these ...int) []int {
	list := []int{math.MinInt, math.MaxInt, 1 << 32, 1<<32 + api.OpBvNot, 1<<32 + api.OpBvAnd}
next:
	for op := -3; op <= api.OpRepeat+3; op++ {
		for _, o := range these {
			if op == o {
				continue next
			}
		}
		list = append(list, op)
	}
	return list
}
