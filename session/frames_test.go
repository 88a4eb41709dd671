package session_test

import (
	"slices"
	"strings"
	"testing"

	"plait/api"
	"plait/session"
)

func both(t *testing.T, f func(t *testing.T, engine int)) {
	t.Run("A", func(t *testing.T) { f(t, api.EngineA) })
	t.Run("B", func(t *testing.T) { f(t, api.EngineB) })
}

func TestDeclare(t *testing.T) {
	b := newBench(t, api.Limits{}, words(4, "x")...)
	for _, c := range []struct {
		name string
		sort int
		want api.Errno
	}{
		{"", 1, api.ErrReadWord}, {"9", 1, api.ErrReadWord}, {"and", 1, api.ErrReadWord}, {"x", 1, api.ErrReadTwice}, {"y", -1, api.ErrReadSort}, {"y", 129, api.ErrReadSort}, {"y", 128, api.OK}, {"y", 128, api.ErrReadTwice},
	} {
		b.want("P17.1: Declare "+c.name, b.Declare(c.name, c.sort), c.want)
	}
	for _, c := range []struct {
		name   string
		params []api.Param
		sort   int
		want   api.Errno
	}{
		{"#b1", nil, 0, api.ErrReadWord}, {"x", nil, 0, api.ErrReadTwice}, {"f", words(4, "a", "a"), 0, api.ErrReadTwice}, {"f", words(4, "a"), 129, api.ErrReadSort}, {"f", words(4, "a", "b"), 0, api.OK}, {"f", nil, 0, api.ErrReadTwice},
	} {
		b.want("P17.1: Define "+c.name, b.Define(c.name, c.params, c.sort, one(t, "(bvult a b)")), c.want)
	}
	b.want("P17.1: a definition's use", b.Assert(one(t, "(f x #x3)")), api.OK)
	b.want("P17.1: a definition's wrong use", b.Assert(one(t, "(f x y)")), api.ErrReadSort)
	if l := b.Asserted(); !slices.Equal(l, []string{"(bvult x #b0011)"}) {
		t.Errorf("P17.1: Asserted: %v", l)
	}
}

// What was declared and defined in a frame outlives it.
func TestDeclaredInFrame(t *testing.T) {
	both(t, func(t *testing.T, engine int) {
		b := newBench(t, api.Limits{}).use(engine)
		b.push(1)
		b.want("P17.1: Declare", b.Declare("x", 2), api.OK)
		b.want("P17.1: Define", b.Define("two", nil, 2, one(t, "#b10")), api.OK)
		b.pop(1)
		b.want("P17.1: Declare again", b.Declare("x", 2), api.ErrReadTwice)
		b.want("P17.1: Define again", b.Define("two", nil, 2, one(t, "#b10")), api.ErrReadTwice)
		b.want("P17.1: Assert", b.Assert(one(t, "(bvugt x two)")), api.OK)
		if n, e := b.Count(); n != "1" || e != api.OK {
			t.Errorf("P17.1: Count: %s, %v", n, e)
		}
		if v, e := b.Check(nil); v != api.Sat || e != api.OK {
			t.Errorf("P17.1: Check: %d, %v", v, e)
		}
		if v, e := b.Get(one(t, "x")); v.Lo != 3 || v.W != 2 || e != api.OK {
			t.Errorf("P17.1: Get: %v, %v", v, e)
		}
	})
}

func TestAssert(t *testing.T) {
	b := newBench(t, api.Limits{}, append(words(4, "x"), words(0, "p")...)...)
	for text, want := range map[string]api.Errno{
		"x": api.ErrSessionSort, "#b1": api.ErrSessionSort, "(bvadd x x)": api.ErrSessionSort, "q": api.ErrReadName, "(and p x)": api.ErrTermSort, "()": api.ErrReadForm, "9": api.ErrReadWord,
	} {
		b.want("P17.1: Assert "+text, b.Assert(one(t, text)), want)
	}
	b.want("P17.1: Assert of nothing", b.Assert(api.Sexp{}), api.ErrReadWord)
	if l := b.Asserted(); l != nil {
		t.Errorf("P17.1: asserted behind errors: %v", l)
	}
	b.assert("p", "p", "true")
	b.push(2)
	b.assert("(not p)")
	want := []string{"p", "p", "true", "(not p)"}
	if l := b.Asserted(); !slices.Equal(l, want) {
		t.Errorf("P17.1: Asserted: %v", l)
	}
	l := b.Asserted()
	l[0] = ""
	if !slices.Equal(b.Asserted(), want) {
		t.Error("P17.1: Asserted isn't new memory")
	}
	b.pop(1)
	b.assert("(= x x)")
	b.pop(1)
	if l := b.Asserted(); !slices.Equal(l, want[:3]) {
		t.Errorf("P17.1: Asserted behind Pop: %v", l)
	}
}

// A term whose text is too long has "".
func TestAssertedLong(t *testing.T) {
	var names []string
	for i := range 9 {
		names = append(names, strings.Repeat(string(rune('a'+i)), 8000))
	}
	b := newBench(t, api.Limits{}, words(0, "p")...)
	for _, name := range names {
		b.want("Declare", b.Declare(name, 0), api.OK)
	}
	// What is given is short: the names of the parts stand for them.
	b.want("Define", b.Define("f", nil, 0, one(t, "(and "+strings.Join(names[:4], " ")+")")), api.OK)
	b.want("Define", b.Define("g", nil, 0, one(t, "(and "+strings.Join(names[4:], " ")+")")), api.OK)
	for _, text := range []string{"f", "(and f g)", "p"} {
		b.want("Assert", b.Assert(one(t, text)), api.OK)
	}
	l := b.Asserted()
	if len(l) != 3 || !strings.HasPrefix(l[0], "(") || l[1] != "" || l[2] != "p" {
		t.Errorf("P17.1: Asserted of a long term: %d texts", len(l))
	}
	if v, e := b.Check(nil); v != api.Sat || e != api.OK {
		t.Errorf("P17.3: Check: %d, %v", v, e)
	}
}

func TestFrames(t *testing.T) {
	b := newBench(t, api.Limits{}, words(0, "p")...)
	refused := func(n, pop int) {
		t.Helper()
		at := b.Frames()
		b.want("P17.1: Push", b.Push(n), api.ErrSessionFrames)
		b.want("P17.1: Pop", b.Pop(pop), api.ErrSessionFrames)
		if b.Frames() != at || len(b.Asserted()) != 1 {
			t.Fatalf("P30.4: %d frames, %v behind what was refused", b.Frames(), b.Asserted())
		}
	}
	b.assert("p")
	const most = int(^uint(0) >> 1)
	refused(-1, -1)
	refused(-most-1, -most-1)
	refused(most, most)
	refused(api.MaxFrames+1, 1)
	b.push(0)
	b.push(3)
	refused(api.MaxFrames-2, 4)
	refused(most, most)
	b.push(api.MaxFrames - 3)
	refused(1, api.MaxFrames+1)
	if b.Frames() != api.MaxFrames {
		t.Errorf("P17.1: Frames: %d", b.Frames())
	}
	b.check()
	b.pop(0)
	b.pop(api.MaxFrames)
	if b.Frames() != 0 || len(b.Asserted()) != 1 {
		t.Errorf("P17.1: Frames: %d, %v", b.Frames(), b.Asserted())
	}
	b.check()
	b.pop(0)
	refused(-1, 1)
}

// The innermost frames go, not the first ones.
func TestPopOfSeveral(t *testing.T) {
	both(t, func(t *testing.T, engine int) {
		b := newBench(t, api.Limits{}, words(3, "x")...).use(engine)
		b.assert("(bvult x #b110)")
		for _, text := range []string{"(bvugt x #b001)", "(not (= x #b010))", "(= x #b011)", "(= x #b100)"} {
			b.push(1)
			b.assert(text)
			b.check()
		}
		for _, n := range []int{1, 0, 2, 1} {
			b.pop(n)
			if v, _ := b.check(); v != api.Sat {
				t.Errorf("P17.9: %d with %d frames", v, b.Frames())
			}
			b.checkCount()
		}
	})
}

// A frame that begins where another one was has nothing of it.
func TestFrameInPlaceOfAnother(t *testing.T) {
	both(t, func(t *testing.T, engine int) {
		b := newBench(t, api.Limits{}, words(0, "p", "q")...).use(engine)
		for _, l := range [][]string{{"p"}, {"(not p)"}, {"p", "q"}, {"p", "(not q)"}, {"p", "(not p)"}, {"q"}, nil, {"false"}, {"(not q)"}} {
			b.push(1)
			b.assert(l...)
			want := api.Sat
			if b.ways() == 0 {
				want = api.Unsat
			}
			if v, e := b.check(); v != want {
				t.Errorf("P17.9: %v: %d, %v", l, v, e)
			}
			b.pop(1)
			if v, e := b.check(); v != api.Sat {
				t.Errorf("P17.9: behind %v: %d, %v", l, v, e)
			}
		}
	})
}

func TestEngine(t *testing.T) {
	b := newBench(t, api.Limits{Nodes: 1}, words(3, "x", "y")...)
	b.assert("(= (bvmul x y) #b011)", "(bvult x y)")
	// The first one is EngineA: the other one has no room.
	b.check()
	for _, e := range []int{0, 3, -1, 1 << 40} {
		b.want("P17.2: Engine", b.Engine(e), api.ErrSessionEngine)
	}
	if v, _ := b.check(); v != api.Sat || b.Clauses() == nil {
		t.Errorf("P17.2: behind refused Engines: %d", v)
	}
	b.use(api.EngineB)
	if v, e := b.check(); v != api.Unknown || e != api.ErrDdNodes {
		t.Errorf("P17.2: EngineB: %d, %v", v, e)
	}
	b.want("P17.2: Engine", b.Engine(7), api.ErrSessionEngine)
	if v, e := b.check(); v != api.Unknown || e != api.ErrDdNodes {
		t.Errorf("P17.2: EngineB behind a refused Engine: %d, %v", v, e)
	}
	b.use(api.EngineA)
	if v, e := b.check(); v != api.Sat {
		t.Errorf("P17.2: EngineA again: %d, %v", v, e)
	}
}

func TestTwoSessions(t *testing.T) {
	a, b := session.New(api.Limits{}), session.New(api.Limits{})
	a.Declare("x", 2)
	b.Declare("x", 0)
	a.Assert(one(t, "(= x #b10)"))
	b.Push(2)
	if e := b.Assert(one(t, "(not x)")); e != api.OK || a.Frames() != 0 || len(a.Asserted()) != 1 {
		t.Errorf("P17.1: two sessions: %v", e)
	}
	a.Check(nil)
	b.Engine(api.EngineB)
	b.Check(nil)
	v, _ := a.Get(one(t, "x"))
	w, _ := b.Get(one(t, "x"))
	if v != (api.Bits{W: 2, Lo: 2}) || w != (api.Bits{}) || a.Clauses() == nil || b.Clauses() != nil {
		t.Errorf("P17.4: two sessions: %v, %v", v, w)
	}
}
