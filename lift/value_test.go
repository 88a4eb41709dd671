package lift_test

import (
	"math"
	"math/rand"
	"slices"
	"strings"
	"testing"

	"plait/api"
	"plait/bv"
	"plait/lift"
)

// The reference of these tests: texts, read by bv; their digits stand the highest first.

func textOf(sort int, bits []bool) string {
	if sort == 0 {
		if bits[0] {
			return "true"
		}
		return "false"
	}
	var text strings.Builder
	text.WriteString("#b")
	for _, b := range slices.Backward(bits) {
		if b {
			text.WriteByte('1')
		} else {
			text.WriteByte('0')
		}
	}
	return text.String()
}

func parse(t *testing.T, text string) api.Bits {
	t.Helper()
	v, e := bv.Parse(text)
	if e != api.OK {
		t.Fatalf("%s: %v", text, e)
	}
	return v
}

// checkThereAndBack holds Value of the bits, and BitsOf of the value, against the text.
func checkThereAndBack(t *testing.T, sort int, bits []bool) {
	t.Helper()
	text := textOf(sort, bits)
	want := parse(t, text)
	if got, e := lift.Value(sort, bits); e != api.OK || got != want {
		t.Errorf("P16.1: Value(%d, %v): %+v, %v; wanted %s", sort, bits, got, e, text)
	}
	if got := lift.BitsOf(want); !slices.Equal(got, bits) {
		t.Errorf("P16.1: BitsOf(%s): %v", text, got)
	}
	if got, e := lift.Value(sort, lift.BitsOf(want)); e != api.OK || got != want {
		t.Errorf("P16.3: Value of BitsOf of %s: %+v, %v", text, got, e)
	}
}

func sizeOf(sort int) int { return max(sort, 1) }

func TestValueExamples(t *testing.T) {
	if v, e := lift.Value(2, []bool{true, false}); e != api.OK || v != (api.Bits{W: 2, Lo: 1}) {
		t.Errorf("P16.1: Value(2, (true, false)): %+v, %v", v, e)
	}
	if v, e := lift.Value(2, []bool{false, true}); e != api.OK || v != (api.Bits{W: 2, Lo: 2}) {
		t.Errorf("P16.1: Value(2, (false, true)): %+v, %v", v, e)
	}
	if v, e := lift.Value(0, []bool{true}); e != api.OK || v != (api.Bits{Lo: 1}) {
		t.Errorf("P16.1: Value(0, (true)): %+v, %v", v, e)
	}
	if v, e := lift.Value(1, []bool{true}); e != api.OK || v != (api.Bits{W: 1, Lo: 1}) {
		t.Errorf("P16.1: Value(1, (true)): %+v, %v", v, e)
	}
}

func TestEachBitAtEachSort(t *testing.T) {
	for sort := range api.MaxWidth + 1 {
		for i := range sizeOf(sort) {
			bits := make([]bool, sizeOf(sort))
			bits[i] = true
			checkThereAndBack(t, sort, bits)
			for j := range bits {
				bits[j] = !bits[j]
			}
			checkThereAndBack(t, sort, bits)
		}
		checkThereAndBack(t, sort, make([]bool, sizeOf(sort)))
		checkThereAndBack(t, sort, slices.Repeat([]bool{true}, sizeOf(sort)))
	}
}

func TestMixedBits(t *testing.T) {
	source := rand.New(rand.NewSource(16))
	for range 5000 {
		sort := source.Intn(api.MaxWidth + 1)
		bits := make([]bool, sizeOf(sort))
		for i := range bits {
			bits[i] = source.Intn(2) == 1
		}
		checkThereAndBack(t, sort, bits)
	}
}

func TestValueRefused(t *testing.T) {
	check := func(sort, many int) {
		t.Helper()
		for _, bits := range [][]bool{make([]bool, many), slices.Repeat([]bool{true}, many)} {
			if v, e := lift.Value(sort, bits); e != api.ErrLiftForm || v != (api.Bits{}) {
				t.Errorf("P16.1: Value(%d, %d bits): %+v, %v", sort, many, v, e)
			}
		}
	}
	for sort := range api.MaxWidth + 1 {
		for many := range api.MaxWidth + 72 {
			if many != sizeOf(sort) {
				check(sort, many)
			}
		}
	}
	for _, sort := range []int{-1, -2, -64, -128, math.MinInt, math.MinInt + 1, 129, 130, 192, 256, math.MaxInt} {
		for _, many := range []int{0, 1, 2, 63, 64, 65, 127, 128, 129, 130, 192, 256} {
			check(sort, many)
		}
	}
	check(128, 1<<20)
	if v, e := lift.Value(0, nil); e != api.ErrLiftForm || v != (api.Bits{}) {
		t.Errorf("P16.1: Value(0, nothing): %+v, %v", v, e)
	}
	if v, e := lift.Value(-1, nil); e != api.ErrLiftForm || v != (api.Bits{}) {
		t.Errorf("P16.1: Value(-1, nothing): %+v, %v", v, e)
	}
}

func TestBitsOfWhatIsNotRight(t *testing.T) {
	for _, v := range []api.Bits{
		{W: -1}, {W: -1, Lo: 1}, {W: -128}, {W: 129}, {W: 129, Lo: 1}, {W: 192}, {W: math.MaxInt}, {W: math.MinInt},
		{Lo: 2}, {Lo: 3}, {Hi: 1}, {Lo: 1, Hi: 1}, {Lo: math.MaxUint64},
		{W: 1, Lo: 2}, {W: 1, Lo: 3}, {W: 4, Lo: 16}, {W: 4, Lo: 1, Hi: 1}, {W: 63, Lo: 1 << 63}, {W: 64, Hi: 1}, {W: 65, Hi: 2}, {W: 127, Hi: 1 << 63},
	} {
		if bits := lift.BitsOf(v); len(bits) != 0 {
			t.Errorf("P16.1: BitsOf(%+v): %v", v, bits)
		}
	}
}

// TestBitsAreLeftAlone: what is handed in is neither changed nor kept, and what is answered is new.
func TestBitsAreLeftAlone(t *testing.T) {
	room := slices.Repeat([]bool{true, false, true}, 50)
	before := slices.Clone(room)
	for _, sort := range []int{0, 1, 64, 65, 128} {
		lift.Value(sort, room[:sizeOf(sort)])
		lift.Value(sort, room[:sizeOf(sort)+1])
	}
	if !slices.Equal(room, before) {
		t.Errorf("P16.1: Value has changed its bits, or the room behind them: %v", room)
	}
	v := api.Bits{W: 100, Lo: 5}
	first, second := lift.BitsOf(v), lift.BitsOf(v)
	for i := range first {
		first[i] = !first[i]
	}
	if again := lift.BitsOf(v); !slices.Equal(second, again) {
		t.Errorf("P16.1: BitsOf hangs on what was done to its answers: %v, %v", second, again)
	}
}
