package bv

import "plait/api"

// Concat puts a above b.
func Concat(a, b api.Bits) (api.Bits, api.Errno) {
	if !isWord(a) || !isWord(b) || a.W+b.W > api.MaxWidth {
		return api.Bits{}, api.ErrBvWidth
	}
	return above(a, b), api.OK
}

// Extract tells the bits j to i.
func Extract(a api.Bits, i, j int) (api.Bits, api.Errno) {
	if !isWord(a) {
		return api.Bits{}, api.ErrBvWidth
	}
	if i >= a.W || i < j || j < 0 {
		return api.Bits{}, api.ErrBvPlace
	}
	c := moveDown(a, j)
	return cut(i-j+1, c.Lo, c.Hi), api.OK
}

// Extend puts n bits above.
func Extend(a api.Bits, n int, signed bool) (api.Bits, api.Errno) {
	if !isWord(a) {
		return api.Bits{}, api.ErrBvWidth
	}
	if n < 0 {
		return api.Bits{}, api.ErrBvPlace
	}
	// Not a.W + n: that may wrap round.
	if n > api.MaxWidth-a.W {
		return api.Bits{}, api.ErrBvWidth
	}
	if signed && isBelowZero(a) {
		// Turned ahead and behind, the 0 bits that come in are 1.
		return turn(widen(turn(a), a.W+n)), api.OK
	}
	return widen(a, a.W+n), api.OK
}

// Rotate turns a word round.
func Rotate(a api.Bits, n int, left bool) (api.Bits, api.Errno) {
	if !isWord(a) {
		return api.Bits{}, api.ErrBvWidth
	}
	if n < 0 {
		return api.Bits{}, api.ErrBvPlace
	}
	up := n % a.W
	if !left {
		up = a.W - up
	}
	return bitwise(api.OpBvOr, moveUp(a, up), moveDown(a, a.W-up)), api.OK
}

// Repeat puts n of it above one another.
func Repeat(a api.Bits, n int) (api.Bits, api.Errno) {
	if !isWord(a) {
		return api.Bits{}, api.ErrBvWidth
	}
	if n < 1 {
		return api.Bits{}, api.ErrBvPlace
	}
	// Not a.W * n: that may wrap round.
	if n > api.MaxWidth/a.W {
		return api.Bits{}, api.ErrBvWidth
	}
	c := a
	for range n - 1 {
		c = above(c, a)
	}
	return c, api.OK
}

func widen(a api.Bits, w int) api.Bits {
	return cut(w, a.Lo, a.Hi)
}

// above asks for widths of at most MaxWidth together.
func above(a, b api.Bits) api.Bits {
	w := a.W + b.W
	return bitwise(api.OpBvOr, moveUp(widen(a, w), b.W), widen(b, w))
}
