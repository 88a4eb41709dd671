package session_test

import (
	"testing"

	"plait/api"
	"plait/bv"
	"plait/session"
)

// What ends what stands behind a check, and what doesn't.
func TestWhatEndsAModel(t *testing.T) {
	type doing struct {
		what string
		ends bool
		do   func(s *session.Session) api.Errno
		want api.Errno
	}
	doings := []doing{
		{"Declare", true, func(s *session.Session) api.Errno { return s.Declare("new", 3) }, api.OK},
		{"a refused Declare", true, func(s *session.Session) api.Errno { return s.Declare("x", 3) }, api.ErrReadTwice},
		{"Assert", true, func(s *session.Session) api.Errno { return s.Assert(api.Sexp{Word: "true"}) }, api.OK},
		{"a refused Assert", true, func(s *session.Session) api.Errno { return s.Assert(api.Sexp{Word: "z"}) }, api.ErrReadName},
		{"Assert of a word", true, func(s *session.Session) api.Errno { return s.Assert(api.Sexp{Word: "x"}) }, api.ErrSessionSort},
		{"Push", true, func(s *session.Session) api.Errno { return s.Push(1) }, api.OK},
		{"Push(0)", true, func(s *session.Session) api.Errno { return s.Push(0) }, api.OK},
		{"a refused Push", true, func(s *session.Session) api.Errno { return s.Push(-1) }, api.ErrSessionFrames},
		{"Pop", true, func(s *session.Session) api.Errno { return s.Pop(1) }, api.OK},
		{"Pop(0)", true, func(s *session.Session) api.Errno { return s.Pop(0) }, api.OK},
		{"a refused Pop", true, func(s *session.Session) api.Errno { return s.Pop(2) }, api.ErrSessionFrames},
		{"a refused Check", true, func(s *session.Session) api.Errno { _, e := s.Check([]api.Sexp{{Word: "x"}}); return e }, api.ErrSessionSort},
		{"Define", false, func(s *session.Session) api.Errno { return s.Define("two", nil, 4, api.Sexp{Word: "#x2"}) }, api.OK},
		{"a refused Define", false, func(s *session.Session) api.Errno { return s.Define("x", nil, 4, api.Sexp{Word: "#x2"}) }, api.ErrReadTwice},
		{"Engine", false, func(s *session.Session) api.Errno { return s.Engine(api.EngineA) }, api.OK},
		{"the other Engine", false, func(s *session.Session) api.Errno { return s.Engine(api.EngineB) }, api.OK},
		{"a refused Engine", false, func(s *session.Session) api.Errno { return s.Engine(0) }, api.ErrSessionEngine},
		{"Get", false, func(s *session.Session) api.Errno { s.Get(api.Sexp{Word: "#x1"}); return api.OK }, api.OK},
		{"a refused Get", false, func(s *session.Session) api.Errno { s.Get(api.Sexp{Word: "z"}); return api.OK }, api.OK},
		{"Count", false, func(s *session.Session) api.Errno { _, e := s.Count(); return e }, api.OK},
		{"all that tells", false, func(s *session.Session) api.Errno {
			s.Frames()
			s.Model()
			s.Core()
			s.Trace()
			s.Clauses()
			s.Learned()
			s.Asserted()
			s.Stores()
			return api.OK
		}, api.OK},
	}
	both(t, func(t *testing.T, engine int) {
		for _, d := range doings {
			for _, text := range []string{"(= x #xa)", "(not (= x x))"} {
				b := newBench(t, api.Limits{}, words(4, "x")...).use(engine)
				b.push(1)
				b.assert(text)
				v, _ := b.check()
				b.want("P17.4: "+d.what, d.do(b.Session), d.want)
				_, me := b.Model()
				_, ge := b.Get(one(t, "x"))
				_, ce := b.Core()
				_, te := b.Trace()
				isModel, isCore := me == api.OK && ge == api.OK, ce == api.OK
				if isModel != (v == api.Sat && !d.ends) || isCore != (v == api.Unsat && !d.ends) || (te == api.OK) != (isCore && engine == api.EngineA) {
					t.Errorf("P17.4: behind %s: %v, %v; P17.5: %v, %v", d.what, me, ge, ce, te)
				}
			}
		}
	})
}

func TestGet(t *testing.T) {
	both(t, func(t *testing.T, engine int) {
		b := newBench(t, api.Limits{}, append(words(4, "x", "unused"), words(0, "p")...)...).use(engine)
		for _, text := range []string{"x", "nothing", "("} {
			x := api.Sexp{Word: text}
			if v, e := b.Get(x); e != api.ErrSessionModel || v != (api.Bits{}) {
				t.Errorf("P17.4: Get(%s) ahead of a check: %v, %v", text, v, e)
			}
		}
		b.assert("(= (bvmul x #x3) #x7)", "p")
		b.check()
		b.want("Define", b.Define("twice", words(4, "a"), 4, one(t, "(bvadd a a)")), api.OK)
		for text, want := range map[string]api.Bits{
			"x": {W: 4, Lo: 13}, "p": bv.Bool(true), "(twice x)": {W: 4, Lo: 10}, "(concat x #b1)": {W: 5, Lo: 27}, "(bvult x #xd)": bv.Bool(false), "(= p (not p))": bv.Bool(false), "((_ zero_extend 124) x)": {W: 128, Lo: 13}, "(let ((y x)) (bvudiv y #x0))": {W: 4, Lo: 15}, "(bvsub unused unused)": {W: 4},
		} {
			if v, e := b.Get(one(t, text)); e != api.OK || v != want {
				t.Errorf("P17.4: Get(%s): %v, %v, not %v", text, v, e, want)
			}
		}
		for text, want := range map[string]api.Errno{"z": api.ErrReadName, "(twice p)": api.ErrReadSort, "(twice)": api.ErrReadForm, "(bvadd x p)": api.ErrTermSort, "()": api.ErrReadForm} {
			if v, e := b.Get(one(t, text)); e != want || v != (api.Bits{}) {
				t.Errorf("P17.4: Get(%s): %v, %v, not %v", text, v, e, want)
			}
		}
	})
}

// The graph that is read into is full: what is there is told, what isn't can't be made.
func TestGetInFullGraph(t *testing.T) {
	b := newBench(t, api.Limits{Terms: 3}, words(4, "x", "y")...)
	b.assert("(bvult x y)")
	b.check()
	for text, want := range map[string]api.Errno{"(bvult x y)": api.OK, "y": api.OK, "(bvult y x)": api.ErrTermMany, "true": api.ErrTermMany} {
		if _, e := b.Get(one(t, text)); e != want {
			t.Errorf("P17.7: Get(%s): %v, not %v", text, e, want)
		}
	}
	if _, e := b.Model(); e != api.OK {
		t.Errorf("P17.4: the model behind a refused Get: %v", e)
	}
}

// Each list that is told is new: what a caller writes into it is seen nowhere.
func TestNewMemory(t *testing.T) {
	both(t, func(t *testing.T, engine int) {
		b := newBench(t, api.Limits{}, words(8, "x", "y")...).use(engine).assert(product...)
		b.check()
		v, _ := b.Get(one(t, "x"))
		m, _ := b.Model()
		m[0], m[1] = api.Named{}, api.Named{}
		for _, l := range append(b.Clauses(), b.Learned()...) {
			clear(l)
			_ = append(l, 1, 1)
		}
		if w, e := b.Get(one(t, "x")); w != v || e != api.OK {
			t.Errorf("P17.4: Get behind a write into Model: %v, %v", w, e)
		}
		if m, _ := b.Model(); m[0].V != v || m[0].Name != "x" {
			t.Errorf("P17.4: Model behind a write into it: %v", m)
		}
		for _, l := range append(b.Clauses(), b.Learned()...) {
			if l[0] == 0 {
				t.Fatal("P17.6: clauses aren't new memory")
			}
		}
		b.check("false", "(= x y)")
		c, _ := b.Core()
		c[0] = 9
		if c, _ := b.Core(); c[0] == 9 {
			t.Error("P17.5: Core isn't new memory")
		}
		if engine == api.EngineA {
			b.assert("(= x y)", "(bvult x #x10)")
			b.check()
			first, _ := b.Trace()
			clear(first)
			if second, _ := b.Trace(); len(second) != len(first) || second[0] == 0 && second[1] == 0 {
				t.Error("P17.5: Trace isn't new memory")
			}
			b.checkTrace(api.Unsat, 0)
		}
	})
}

// What is handed in is neither changed nor kept.
func TestArguments(t *testing.T) {
	both(t, func(t *testing.T, engine int) {
		b := newBench(t, api.Limits{}, words(4, "x")...).use(engine)
		l := all(t, "(= x #x5)", "(bvult x #x6)", "(= x #x1)")
		params, body := words(4, "a"), one(t, "(bvult a #x6)")
		b.want("Define", b.Define("low", params, 0, body), api.OK)
		params[0] = api.Param{Name: "b", Sort: 1}
		body.Kids[0].Word = "bvugt"
		asserted := one(t, "(low x)")
		b.want("Assert", b.Assert(asserted), api.OK)
		asserted.Kids[0].Word = "high"
		if v, e := b.Check(l[:2]); v != api.Sat || e != api.OK || l[2].Kids[2].Word != "#x1" {
			t.Errorf("P17.3: %d, %v, %v", v, e, l[2])
		}
		l[0] = api.Sexp{}
		if v, e := b.Get(one(t, "(low x)")); v != bv.Bool(true) || e != api.OK {
			t.Errorf("P17.4: %v, %v", v, e)
		}
		if v, e := b.Get(one(t, "x")); v.Lo != 5 || e != api.OK {
			t.Errorf("P17.4: %v, %v", v, e)
		}
	})
}

// Wide words, whose bits lie in both halves of a value.
func TestWide(t *testing.T) {
	b := newBench(t, api.Limits{})
	b.Declare("x", 128)
	b.Declare("y", 65)
	for _, text := range []string{"(= (bvadd x (_ bv1 128)) #x80000000000000010000000000000000)", "(= ((_ extract 64 64) y) #b1)", "(= ((_ extract 63 0) y) #x00000000000000ff)"} {
		b.want(text, b.Assert(one(t, text)), api.OK)
	}
	for _, engine := range []int{api.EngineA, api.EngineB} {
		b.use(engine)
		if v, e := b.Check(nil); v != api.Sat || e != api.OK {
			t.Fatalf("P17.3: engine %d: %d, %v", engine, v, e)
		}
		m, _ := b.Model()
		if m[0].V != (api.Bits{W: 128, Lo: 1<<64 - 1, Hi: 1 << 63}) || m[1].V != (api.Bits{W: 65, Lo: 255, Hi: 1}) {
			t.Errorf("P17.4: engine %d: %v", engine, m)
		}
	}
	if n, e := b.Count(); n != "1" || e != api.OK {
		t.Errorf("P17.8: %s, %v", n, e)
	}
}
