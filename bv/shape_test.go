package bv_test

import (
	"fmt"
	"math"
	"math/big"
	"testing"

	"plait/api"
	"plait/bv"
)

func joined(a, b api.Bits) api.Bits {
	n := number(a)
	n.Lsh(n, uint(b.W))
	return word(a.W+b.W, n.Add(n, number(b)))
}

func TestConcat(t *testing.T) {
	for _, v := range edgeWidths {
		for _, w := range edgeWidths {
			for _, a := range samples(v) {
				for _, b := range samples(w) {
					got, e := bv.Concat(a, b)
					what := fmt.Sprintf("P1.4: Concat(%+v, %+v)", a, b)
					if v+w > api.MaxWidth {
						checkRefused(t, what, got, e, api.ErrBvWidth)
					} else {
						checkBits(t, what, got, e, joined(a, b))
					}
				}
			}
		}
	}
	got, e := bv.Concat(small(1, 1), small(1, 0))
	checkBits(t, "P1.4: Concat(#b1, #b0)", got, e, small(2, 2))
	for _, a := range noWords() {
		for _, b := range []api.Bits{small(1, 1), small(128, 1), a} {
			got, e := bv.Concat(a, b)
			checkRefused(t, fmt.Sprintf("P1.4: Concat(%+v, %+v)", a, b), got, e, api.ErrBvWidth)
			got, e = bv.Concat(b, a)
			checkRefused(t, fmt.Sprintf("P1.4: Concat(%+v, %+v)", b, a), got, e, api.ErrBvWidth)
		}
	}
}

func TestExtract(t *testing.T) {
	for _, w := range edgeWidths {
		a := samples(w)[len(samples(w))-1]
		for _, a := range []api.Bits{a, small(w, -1), word(w, new(big.Int).Sub(power(w-1), big.NewInt(2)))} {
			for i := -1; i <= w; i++ {
				for j := -1; j <= w; j++ {
					got, e := bv.Extract(a, i, j)
					what := fmt.Sprintf("P1.4: Extract(%+v, %d, %d)", a, i, j)
					if w > i && i >= j && j >= 0 {
						checkBits(t, what, got, e, word(i-j+1, new(big.Int).Rsh(number(a), uint(j))))
					} else {
						checkRefused(t, what, got, e, api.ErrBvPlace)
					}
				}
			}
		}
	}
	far := []int{math.MinInt, math.MinInt + 1, -1, 8, 128, math.MaxInt - 1, math.MaxInt}
	for _, i := range far {
		for _, j := range far {
			for _, p := range [][2]int{{i, j}, {0, i}, {7, i}, {i, 0}, {i, 7}} {
				if p[0] < 8 && p[0] >= p[1] && p[1] >= 0 {
					continue
				}
				got, e := bv.Extract(small(8, -1), p[0], p[1])
				checkRefused(t, fmt.Sprintf("P1.4: Extract(.., %d, %d)", p[0], p[1]), got, e, api.ErrBvPlace)
			}
		}
	}
	for _, a := range noWords() {
		for _, p := range [][2]int{{0, 0}, {-1, -1}, {0, 1}, {200, 0}} {
			got, e := bv.Extract(a, p[0], p[1])
			checkRefused(t, fmt.Sprintf("P1.4: Extract(%+v, %d, %d)", a, p[0], p[1]), got, e, api.ErrBvWidth)
		}
	}
}

func TestExtend(t *testing.T) {
	for _, w := range edgeWidths {
		for _, a := range samples(w) {
			for _, n := range []int{0, 1, 2, 62, 63, 64, 65, 127 - w, 128 - w} {
				if n < 0 || w+n > api.MaxWidth {
					continue
				}
				got, e := bv.Extend(a, n, false)
				checkBits(t, fmt.Sprintf("P1.4: Extend(%+v, %d, false)", a, n), got, e, word(w+n, number(a)))
				got, e = bv.Extend(a, n, true)
				checkBits(t, fmt.Sprintf("P1.4: Extend(%+v, %d, true)", a, n), got, e, word(w+n, signedNumber(a)))
			}
		}
	}
	for _, signed := range []bool{false, true} {
		for _, w := range edgeWidths {
			for _, n := range []int{-1, -w, math.MinInt} {
				got, e := bv.Extend(small(w, -1), n, signed)
				checkRefused(t, fmt.Sprintf("P1.4: Extend of width %d by %d", w, n), got, e, api.ErrBvPlace)
			}
			for _, n := range []int{129 - w, 129, math.MaxInt - w, math.MaxInt - w + 1, math.MaxInt} {
				got, e := bv.Extend(small(w, -1), n, signed)
				checkRefused(t, fmt.Sprintf("P1.4: Extend of width %d by %d", w, n), got, e, api.ErrBvWidth)
			}
		}
		for _, a := range noWords() {
			for _, n := range []int{0, 1, -1, 128, math.MinInt, math.MaxInt} {
				got, e := bv.Extend(a, n, signed)
				checkRefused(t, fmt.Sprintf("P1.4: Extend(%+v, %d)", a, n), got, e, api.ErrBvWidth)
			}
		}
	}
}

// turnedRound goes bit by bit: bit i comes to i + n, modulo the width.
func turnedRound(a api.Bits, n int, left bool) api.Bits {
	by := n % a.W
	if !left {
		by = a.W - by
	}
	r := new(big.Int)
	for i := range a.W {
		r.SetBit(r, (i+by)%a.W, number(a).Bit(i))
	}
	return word(a.W, r)
}

func TestRotate(t *testing.T) {
	for _, w := range edgeWidths {
		for _, a := range samples(w) {
			for _, n := range []int{0, 1, w - 1, w, w + 1, 2*w + 1, 63, 64, 65, 128, 129, math.MaxInt} {
				for _, left := range []bool{false, true} {
					got, e := bv.Rotate(a, n, left)
					checkBits(t, fmt.Sprintf("P1.4: Rotate(%+v, %d, %v)", a, n, left), got, e, turnedRound(a, n, left))
				}
			}
		}
	}
	got, e := bv.Rotate(small(4, 12), 1, true)
	checkBits(t, "P1.4: Rotate(#b1100, 1, left)", got, e, small(4, 9))
	for _, left := range []bool{false, true} {
		for _, n := range []int{-1, -4, math.MinInt} {
			got, e := bv.Rotate(small(4, 12), n, left)
			checkRefused(t, fmt.Sprintf("P1.4: Rotate(.., %d)", n), got, e, api.ErrBvPlace)
		}
		for _, a := range noWords() {
			for _, n := range []int{0, 1, -1, math.MinInt, math.MaxInt} {
				got, e := bv.Rotate(a, n, left)
				checkRefused(t, fmt.Sprintf("P1.4: Rotate(%+v, %d)", a, n), got, e, api.ErrBvWidth)
			}
		}
	}
}

func TestRepeat(t *testing.T) {
	for w := 1; w <= api.MaxWidth; w++ {
		for _, a := range []api.Bits{small(w, 1), small(w, -1), word(w, power(w-1)), small(w, 0x5a5a5a5a5a5a5a5a)} {
			want := a
			for n := 1; n <= api.MaxWidth/w; n++ {
				if n > 1 {
					want = joined(want, a)
				}
				got, e := bv.Repeat(a, n)
				checkBits(t, fmt.Sprintf("P1.4: Repeat(%+v, %d)", a, n), got, e, want)
			}
			for _, n := range []int{api.MaxWidth/w + 1, 129, 1 << 32, 1 << 57, 1 << 62, math.MaxInt} {
				got, e := bv.Repeat(a, n)
				checkRefused(t, fmt.Sprintf("P1.4: Repeat(%+v, %d)", a, n), got, e, api.ErrBvWidth)
			}
			for _, n := range []int{0, -1, -1 << 57, math.MinInt} {
				got, e := bv.Repeat(a, n)
				checkRefused(t, fmt.Sprintf("P1.4: Repeat(%+v, %d)", a, n), got, e, api.ErrBvPlace)
			}
		}
	}
	for _, a := range noWords() {
		for _, n := range []int{1, 0, -1, 2, 129, math.MinInt, math.MaxInt} {
			got, e := bv.Repeat(a, n)
			checkRefused(t, fmt.Sprintf("P1.4: Repeat(%+v, %d)", a, n), got, e, api.ErrBvWidth)
		}
	}
}
