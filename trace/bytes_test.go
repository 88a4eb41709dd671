package trace_test

import (
	"math"
	"math/rand"
	"slices"
	"testing"

	"plait/api"
	"plait/trace"
)

func TestEncodeBytes(t *testing.T) {
	for _, c := range []struct {
		l    []trace.Step
		want []byte
	}{
		{nil, []byte{0x50, 0x4C, 0x54, 0x31, 0, 0, 0, 0}},
		{[]trace.Step{}, []byte{0x50, 0x4C, 0x54, 0x31, 0, 0, 0, 0}},
		{steps(nil), []byte{0x50, 0x4C, 0x54, 0x31, 0, 0, 0, 1, 0, 0, 0, 0}},
		{steps([]int{}, nil), []byte{0x50, 0x4C, 0x54, 0x31, 0, 0, 0, 2, 0, 0, 0, 0, 0, 0, 0, 0}},
		{steps([]int{0x01020304}, []int{0x7FFFFFFF, 0xFE80}), []byte{
			0x50, 0x4C, 0x54, 0x31, 0, 0, 0, 2,
			0, 0, 0, 1, 1, 2, 3, 4,
			0, 0, 0, 2, 0x7F, 0xFF, 0xFF, 0xFF, 0, 0, 0xFE, 0x80}},
	} {
		if b, e := trace.Encode(c.l); e != api.OK || !slices.Equal(b, c.want) {
			t.Errorf("P12.1: Encode(%v): % x, %v, not % x", c.l, b, e, c.want)
		}
		if l, e := trace.Decode(c.want); e != api.OK || !sameSteps(l, c.l) {
			t.Errorf("P12.1: Decode(% x): %v, %v, not %v", c.want, l, e, c.l)
		}
	}
}

func TestEncodeNoNumber(t *testing.T) {
	long := make([]int, api.MaxTrace)
	for _, n := range []int{-1, 1 << 31, 1 << 32, 1<<32 + 5, -1 << 31, math.MinInt, math.MaxInt} {
		for _, l := range [][]trace.Step{
			steps([]int{n}), steps([]int{0, n}), steps([]int{n, 0}), steps([]int{1}, nil, []int{2, n, 3}), steps([]int{n}, long), steps(long, []int{n}), steps(long, nil, []int{n}),
		} {
			if b, e := trace.Encode(l); e != api.ErrTraceForm || len(b) > 0 {
				t.Errorf("P12.1: a step with %d: %d bytes, %v", n, len(b), e)
			}
		}
	}
}

func TestEncodeLong(t *testing.T) {
	most := api.MaxTrace/4 - 2 // numbers behind the first two
	for _, c := range []struct {
		l    []trace.Step
		want api.Errno
	}{
		{steps(make([]int, most-1)), api.OK},
		{steps(make([]int, most)), api.ErrTraceLong},
		{make([]trace.Step, most), api.OK},
		{make([]trace.Step, most+1), api.ErrTraceLong},
		{steps([]int{7}, make([]int, most-3)), api.OK},
		{steps([]int{7}, make([]int, most-3), nil), api.ErrTraceLong},
		{steps([]int{7}, make([]int, most-2)), api.ErrTraceLong},
	} {
		b, e := trace.Encode(c.l)
		if e != c.want {
			t.Errorf("P12.1: %d steps: %v, not %v", len(c.l), e, c.want)
		}
		if e != api.OK && len(b) > 0 {
			t.Errorf("rule 4: %d bytes beside %v", len(b), e)
		}
		if e != api.OK {
			continue
		}
		if l, d := trace.Decode(b); len(b) != api.MaxTrace || d != api.OK || !sameSteps(l, c.l) {
			t.Errorf("P12.5: of %d bytes: %d steps, %v", len(b), len(l), d)
		}
	}
}

func TestDecodeLong(t *testing.T) {
	b := encoded(t, make([]trace.Step, api.MaxTrace/4-2))
	longer := append(slices.Clone(b), 0, 0, 0, 0)
	longer[7]++
	for _, x := range [][]byte{append(slices.Clone(b), 0), longer, make([]byte, api.MaxTrace+1), make([]byte, 2*api.MaxTrace)} {
		if l, e := trace.Decode(x); e != api.ErrTraceLong || len(l) > 0 {
			t.Errorf("P12.1: %d bytes: %d steps, %v", len(x), len(l), e)
		}
	}
	if l, e := trace.Decode(make([]byte, api.MaxTrace)); e != api.ErrTraceForm || len(l) > 0 {
		t.Errorf("P12.1: noughts: %d steps, %v", len(l), e)
	}
}

func TestDecodeForm(t *testing.T) {
	b := encoded(t, steps([]int{3, 1}, nil, []int{1<<31 - 1}))
	wrong := [][]byte{nil, {}, []byte("PLT1"), []byte("plt1\x00\x00\x00\x00"), []byte("PLT2\x00\x00\x00\x00"), []byte("PLT1\x00\x00\x00"), []byte("\x00\x00\x00\x00")}
	for n := range len(b) {
		wrong = append(wrong, b[:n])
	}
	for n := range 12 {
		wrong = append(wrong, append(slices.Clone(b), make([]byte, n+1)...))
	}
	for i := range 4 {
		x := slices.Clone(b)
		x[i] ^= 1
		wrong = append(wrong, x)
	}
	for _, at := range []int{4, 8, 12, 16, 20, 24, 28} {
		x := slices.Clone(b)
		x[at] |= 0x80
		wrong = append(wrong, x)
	}
	for _, at := range []int{7, 11, 23, 27} {
		for _, add := range []byte{1, 2, 3, 0x40} {
			x := slices.Clone(b)
			x[at] += add
			wrong = append(wrong, x)
		}
	}
	for _, count := range []string{"\x7F\xFF\xFF\xFF", "\x80\x00\x00\x00", "\xFF\xFF\xFF\xFF"} {
		wrong = append(wrong, []byte("PLT1"+count), []byte("PLT1\x00\x00\x00\x01"+count), []byte("PLT1"+count+"\x00\x00\x00\x00"))
	}
	for _, x := range wrong {
		if l, e := trace.Decode(x); e != api.ErrTraceForm || len(l) > 0 {
			t.Errorf("P12.1: Decode(% x): %v, %v", x, l, e)
		}
	}
	x := slices.Clone(b)
	x[11]--
	if l, e := trace.Decode(x); e != api.OK || !sameSteps(l, steps([]int{3}, []int{0}, []int{1<<31 - 1})) {
		t.Errorf("P12.1: Decode(% x): %v, %v", x, l, e)
	}
}

// Every list of up to 4 small numbers behind the first bytes: just the lists that a second writing makes of steps are taken.
func TestDecodeAllSmall(t *testing.T) {
	made := map[string][]trace.Step{}
	var grow func(l []trace.Step, words int)
	grow = func(l []trace.Step, words int) {
		b := encoded(t, l)
		made[string(b)] = l
		for n := range words {
			for code := range 1 << (2 * n) {
				from := make([]int, n)
				for i := range from {
					from[i] = code >> (2 * i) & 3
				}
				grow(append(slices.Clone(l), trace.Step{From: from}), words-1-n)
			}
		}
	}
	grow(nil, 4)
	var taken int
	for many := range 5 {
		for n := range 5 {
			for code := range 1 << (2 * n) {
				b := []byte{0x50, 0x4C, 0x54, 0x31, 0, 0, 0, byte(many)}
				for i := range n {
					b = append(b, 0, 0, 0, byte(code>>(2*i)&3))
				}
				l, e := trace.Decode(b)
				want, ok := made[string(b)]
				if ok != (e == api.OK) || !sameSteps(l, want) {
					t.Fatalf("P12.1: Decode(% x): %v, %v, not %v", b, l, e, want)
				}
				if ok {
					taken++
				}
			}
		}
	}
	if taken != len(made) {
		t.Errorf("P12.5: %d of %d taken", taken, len(made))
	}
}

func TestBytesThereAndBack(t *testing.T) {
	r := rand.New(rand.NewSource(121))
	for range 2000 {
		l := make([]trace.Step, r.Intn(6))
		for i := range l {
			for range r.Intn(5) {
				l[i].From = append(l[i].From, r.Intn(1<<31)>>r.Intn(31))
			}
		}
		b := encoded(t, l)
		got, e := trace.Decode(b)
		if e != api.OK || !sameSteps(got, l) {
			t.Fatalf("P12.5: Decode(Encode(%v)): %v, %v", l, got, e)
		}
		x := slices.Clone(b)
		x[r.Intn(len(x))] = byte(r.Intn(256) >> r.Intn(8))
		got, e = trace.Decode(x)
		if e == api.OK && !slices.Equal(encoded(t, got), x) {
			t.Fatalf("P12.5: Encode(Decode(% x)): %v", x, got)
		}
		if e != api.OK && (e != api.ErrTraceForm || len(got) > 0) {
			t.Fatalf("P12.1: Decode(% x): %v, %v", x, got, e)
		}
	}
}

func TestBytesMemory(t *testing.T) {
	backing := []int{1, 2, 3, 4}
	l := []trace.Step{{From: backing[:2]}, {From: backing[1:3]}, {From: backing[:0]}, {From: []int{5}}}
	b := encoded(t, l[:3])
	want := slices.Clone(b)
	got, _ := trace.Decode(b)
	for i := range b {
		b[i] = 0xEE
	}
	if !slices.Equal(backing, []int{1, 2, 3, 4}) || !slices.Equal(l[3].From, []int{5}) {
		t.Errorf("rule 3: what was handed in is changed: %v, %v", backing, l)
	}
	if !slices.Equal(encoded(t, l[:3]), want) || !sameSteps(got, l[:3]) {
		t.Errorf("rule 3: %v behind spoiled bytes", got)
	}
	for i := range got {
		spoil(got[i].From)
		for j := range got {
			if j > i && !slices.Equal(got[j].From, l[j].From) {
				t.Errorf("rule 3: lists share memory: %v", got)
			}
		}
	}
	spare := append(slices.Clone(want), 9, 9)
	trace.Decode(spare[:len(want)])
	if !slices.Equal(spare[:len(want)], want) || spare[len(want)] != 9 {
		t.Error("rule 3: the bytes that were handed in are changed")
	}
}

// spoil writes over a list and the room behind it.
func spoil(l []int) {
	l = l[:cap(l)]
	for i := range l {
		l[i] = 99
	}
}
