package bv_test

import (
	"fmt"
	"math/big"
	"strings"
	"testing"

	"plait/api"
	"plait/bv"
)

func TestText(t *testing.T) {
	for _, w := range edgeWidths {
		for _, a := range samples(w) {
			if got, want := bv.Text(a), fmt.Sprintf("#b%0*b", w, number(a)); got != want {
				t.Errorf("P1.5: Text(%+v): %q; wanted %q", a, got, want)
			}
		}
	}
	if got := bv.Text(api.Bits{Lo: 1}) + " " + bv.Text(api.Bits{}); got != "true false" {
		t.Errorf("P1.5: Text of the Bools: %q", got)
	}
	for _, a := range wrongBits() {
		if got := bv.Text(a); got != "" {
			t.Errorf("P1.5: Text(%+v): %q", a, got)
		}
	}
}

func TestParse(t *testing.T) {
	for n := 1; n <= api.MaxWidth; n++ {
		for _, a := range []api.Bits{small(n, 0), small(n, 1), small(n, -1), word(n, power(n-1)), small(n, 0x6b6b6b6b6b6b6b6b)} {
			s := fmt.Sprintf("#b%0*b", n, number(a))
			got, e := bv.Parse(s)
			checkBits(t, "P1.5: Parse "+s, got, e, a)
		}
	}
	const digits = "0123456789abcdefABCDEF9876543210"
	for n := 1; n <= 32; n++ {
		for _, s := range []string{digits[:n], digits[32-n:], strings.Repeat("0", n), strings.Repeat("f", n), strings.Repeat("F", n)} {
			value, ok := new(big.Int).SetString(s, 16)
			if !ok {
				t.Fatal(s)
			}
			got, e := bv.Parse("#x" + s)
			checkBits(t, "P1.5: Parse #x"+s, got, e, word(4*n, value))
		}
	}
	got, e := bv.Parse("true")
	checkBits(t, "P1.5: Parse true", got, e, api.Bits{Lo: 1})
	got, e = bv.Parse("false")
	checkBits(t, "P1.5: Parse false", got, e, api.Bits{})
	got, e = bv.Parse("#xfF")
	checkBits(t, "P1.5: Parse #xfF", got, e, small(8, 255))
}

func TestParseRefused(t *testing.T) {
	texts := []string{
		"", "#", "b", "x", "#b", "#x", "##", "##b1", "#B1", "#X1", "b1", "x1", "0b1", "0x1", "1", "0", "#1", "#d1", "#o1",
		"True", "TRUE", "tru", "truee", "true ", " true", "False", "FALSE", "fals", "falsee", "#true", "true\x00",
		" #b1", "#b1 ", "#b 1", "#b1\n", "#b-1", "#b+1", "#b1_1", "#b2", "#b1a", "#bb", "#b1.0", "#b12", "#b01/", "#b01:",
		" #x1", "#x1 ", "#x 1", "#x1\n", "#x-1", "#x+1", "#x1_1", "#xg", "#xG", "#x/", "#x:", "#x@", "#x`", "#x#x1", "#xx1",
		"#b\u0661", "#x\uff11", "#b\xff", "#x\x80", "#b1\x00", "#x\x00",
		"#b" + strings.Repeat("1", 129), "#b" + strings.Repeat("0", 129), "#b" + strings.Repeat("0", 1<<16),
		"#x" + strings.Repeat("f", 33), "#x" + strings.Repeat("0", 33), "#x" + strings.Repeat("0", 128),
	}
	for c := range 256 {
		b := string([]byte{byte(c)})
		if !strings.Contains("01", b) {
			texts = append(texts, "#b"+b, "#b1"+b, "#b"+b+"1")
		}
		if !strings.Contains("0123456789abcdefABCDEF", b) {
			texts = append(texts, "#x"+b, "#x1"+b, "#x"+b+"1")
		}
	}
	for _, s := range texts {
		got, e := bv.Parse(s)
		checkRefused(t, fmt.Sprintf("P1.5: Parse(%.40q)", s), got, e, api.ErrBvForm)
	}
}
