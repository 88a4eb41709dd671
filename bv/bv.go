// Package bv: values and the meaning of operators: see doc/01-bv.md.
package bv

import "plait/api"

// New makes a word.
func New(w int, lo, hi uint64) (api.Bits, api.Errno) {
	if w < 1 || w > api.MaxWidth {
		return api.Bits{}, api.ErrBvWidth
	}
	return cut(w, lo, hi), api.OK
}

// Right tells whether a value is right.
func Right(a api.Bits) bool {
	if a.W < 0 || a.W > api.MaxWidth {
		return false
	}
	if a.W == 0 {
		return a == Bool(false) || a == Bool(true)
	}
	return a == cut(a.W, a.Lo, a.Hi)
}

// Bool makes a Bool.
func Bool(b bool) api.Bits {
	if b {
		return api.Bits{Lo: 1}
	}
	return api.Bits{}
}

// Bit tells a bit.
func Bit(a api.Bits, i int) (bool, api.Errno) {
	if !isWord(a) {
		return false, api.ErrBvWidth
	}
	if i < 0 || i >= a.W {
		return false, api.ErrBvPlace
	}
	return bitAt(a, i), api.OK
}

func isWord(a api.Bits) bool {
	return a.W != 0 && Right(a)
}

// cut asks for a width of 1 to MaxWidth.
func cut(w int, lo, hi uint64) api.Bits {
	if w <= 64 {
		return api.Bits{W: w, Lo: lo & lowest(w)}
	}
	return api.Bits{W: w, Lo: lo, Hi: hi & lowest(w-64)}
}

// lowest has its n lowest bits 1; at n 64 the shift comes to 0, and 0 - 1 is all of them.
func lowest(n int) uint64 {
	return uint64(1)<<uint(n) - 1
}

func bitAt(a api.Bits, i int) bool {
	return moveDown(a, i).Lo&1 == 1
}

func isBelowZero(a api.Bits) bool {
	return bitAt(a, a.W-1)
}

// moveUp shifts within the width, by any n from 0 on.
func moveUp(a api.Bits, n int) api.Bits {
	if n >= 64 {
		return cut(a.W, 0, a.Lo<<uint(n-64))
	}
	return cut(a.W, a.Lo<<uint(n), a.Hi<<uint(n)|a.Lo>>uint(64-n))
}

// moveDown shifts within the width, by any n from 0 on.
func moveDown(a api.Bits, n int) api.Bits {
	if n >= 64 {
		return cut(a.W, a.Hi>>uint(n-64), 0)
	}
	return cut(a.W, a.Lo>>uint(n)|a.Hi<<uint(64-n), a.Hi>>uint(n))
}
