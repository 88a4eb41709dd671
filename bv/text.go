package bv

import (
	"strings"

	"plait/api"
)

// Text writes a value.
func Text(a api.Bits) string {
	if !Right(a) {
		return ""
	}
	if a.W == 0 {
		if a == Bool(true) {
			return "true"
		}
		return "false"
	}
	var t strings.Builder
	t.WriteString("#b")
	for k := range a.W {
		if bitAt(a, a.W-1-k) {
			t.WriteByte('1')
		} else {
			t.WriteByte('0')
		}
	}
	return t.String()
}

// Parse reads one.
func Parse(s string) (api.Bits, api.Errno) {
	switch {
	case s == "true", s == "false":
		return Bool(s == "true"), api.OK
	case strings.HasPrefix(s, "#b"):
		return parseDigits(s[2:], 1)
	case strings.HasPrefix(s, "#x"):
		return parseDigits(s[2:], 4)
	}
	return api.Bits{}, api.ErrBvForm
}

// parseDigits reads digits of so many bits each.
func parseDigits(s string, digitBits int) (api.Bits, api.Errno) {
	w := len(s) * digitBits
	if w < 1 || w > api.MaxWidth {
		return api.Bits{}, api.ErrBvForm
	}
	c := cut(w, 0, 0)
	for k := range len(s) {
		d := digit(s[k])
		if d > lowest(digitBits) {
			return api.Bits{}, api.ErrBvForm
		}
		c = moveUp(c, digitBits)
		c.Lo |= d
	}
	return c, api.OK
}

// digit is the number of a hexadecimal digit, and 16 of any other sign.
func digit(c byte) uint64 {
	switch {
	case '0' <= c && c <= '9':
		return uint64(c - '0')
	case 'a' <= c && c <= 'f':
		return uint64(c-'a') + 10
	case 'A' <= c && c <= 'F':
		return uint64(c-'A') + 10
	}
	return 16
}
