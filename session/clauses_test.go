package session_test

import (
	"slices"
	"testing"

	"plait/api"
	"plait/trace"
)

func TestCore(t *testing.T) {
	both(t, func(t *testing.T, engine int) {
		b := newBench(t, api.Limits{}, append(words(4, "x", "y"), words(0, "p", "q")...)...).use(engine)
		b.assert("(bvult x #x3)")
		for _, c := range []struct {
			assume []string
			core   []int // of EngineA
		}{
			{[]string{"(= x #x5)"}, []int{0}},
			{[]string{"p", "q", "(= x #x5)", "(not q)"}, nil},
			{[]string{"p", "(= x #x2)", "p", "(not p)"}, nil},
			{[]string{"q", "p", "false"}, []int{2}},
			{[]string{"false", "false"}, []int{0}},
			{[]string{"(= y y)", "(bvuge x #x3)", "true"}, []int{1}},
			{[]string{"(= x y)", "p", "(= y #x4)"}, []int{0, 2}},
		} {
			if v, e := b.check(c.assume...); v != api.Unsat {
				t.Errorf("P17.3: %v: %d, %v", c.assume, v, e)
			}
			l, _ := b.Core()
			if engine == api.EngineA && c.core != nil && !slices.Equal(l, c.core) {
				t.Errorf("P17.5: Core of %v: %v", c.assume, l)
			}
		}
		b.assert("(= x #x9)")
		b.check()
		b.check("p", "q")
		if l, e := b.Core(); e != api.OK || engine == api.EngineA && l != nil {
			t.Errorf("P17.5: Core where nothing needs to be assumed: %v, %v", l, e)
		}
	})
}

// A core's assumptions, asserted in a frame of their own.
func TestCoreAsserted(t *testing.T) {
	both(t, func(t *testing.T, engine int) {
		b := newBench(t, api.Limits{}, words(3, "x", "y", "z")...).use(engine)
		b.assert("(bvult x y)")
		b.push(1)
		b.assert("(bvule y z)")
		assume := []string{"(bvult #b001 x)", "(= ((_ extract 0 0) y) #b1)", "(bvule z x)", "(not (= x z))"}
		if v, e := b.check(assume...); v != api.Unsat {
			t.Fatalf("P17.3: %d, %v", v, e)
		}
		core, _ := b.Core()
		b.push(1)
		for _, n := range core {
			b.assert(assume[n])
		}
		if v, e := b.check(); v != api.Unsat {
			t.Errorf("P30.10: %v: %d, %v", core, v, e)
		}
		b.pop(1)
		if v, e := b.check(); v != api.Sat {
			t.Errorf("P30.4: %d, %v", v, e)
		}
	})
}

func TestNoTrace(t *testing.T) {
	b := newBench(t, api.Limits{}, words(0, "p")...)
	none := func(what string) {
		t.Helper()
		bytes, e := b.Trace()
		core, f := b.Core()
		if bytes != nil || e != api.ErrSessionTrace || core != nil || f != api.ErrSessionTrace {
			t.Errorf("P17.5: %s: %d bytes, %v, %v, %v", what, len(bytes), e, core, f)
		}
	}
	none("ahead of all checks")
	b.check()
	none("behind Sat")
	b.assert("p", "(not p)")
	none("behind Assert")
	b.check()
	b.push(0)
	none("behind Push(0)")
	b.check()
	b.Check(all(t, "nothing"))
	none("behind wrong assumptions")
	// What was assumed isn't needed, but it was assumed.
	b.check("true")
	if _, e := b.Trace(); e != api.ErrSessionTrace {
		t.Errorf("P17.5: a trace of a check with assumptions: %v", e)
	}
	if v, e := b.Check([]api.Sexp{}); v != api.Unsat || e != api.OK {
		t.Errorf("P17.3: %d, %v", v, e)
	}
	b.checkTrace(api.Unsat, 0)
	// Another engine is chosen, but it wasn't that one's check.
	b.Engine(api.EngineB)
	b.checkTrace(api.Unsat, 0)
}

// Traces of all sorts of refutations.
func TestTraces(t *testing.T) {
	for _, l := range [][]string{
		{"false"},
		{"(not (= x x))"},
		{"(bvult x #b0000)"},
		{"(= x y)", "(not (= y x))"},
		{"(bvult x y)", "(bvult y z)", "(bvult z x)"},
		{"(not (= (bvmul x y) (bvmul y x)))"},
		{"(not (= (bvadd (bvmul (bvudiv x y) y) (bvurem x y)) x))", "(not (= y #x0))"},
		{"(not (= (bvmul x (bvadd y z)) (bvadd (bvmul x y) (bvmul x z))))"},
		{"(= (bvmul x x) #b0111)"},
	} {
		// All in the first frame; each in a frame; with frames of nothing between.
		for n := range 3 {
			b := newBench(t, api.Limits{}, words(4, "x", "y", "z")...)
			for _, text := range l {
				b.push(n)
				b.assert(text)
			}
			if v, e := b.check(); v != api.Unsat {
				t.Errorf("P17.3: %v: %d, %v", l, v, e)
			}
			if n > 0 {
				b.pop(1)
				b.pop(n - 1)
				b.check()
				b.push(1)
				b.assert(l[len(l)-1])
				b.check()
			}
		}
	}
}

// Much is learned in frames that are gone, and under assumptions, ahead of the check that a trace is asked of.
func TestTraceBehindOtherChecks(t *testing.T) {
	b := newBench(t, api.Limits{}, words(5, "x", "y")...)
	b.assert("(bvult #b00001 x)", "(bvult #b00001 y)", "(bvult x #b00110)", "(bvult y #b00110)")
	for _, n := range []string{"#b00111", "#b01011", "#b01101", "#b10001", "#b01010"} {
		b.check("(= (bvmul x y) " + n + ")")
		b.push(1)
		b.assert("(= (bvmul x y) " + n + ")")
		b.check()
		b.check("(bvult x y)")
		b.pop(1)
	}
	b.check("(bvult x y)")
	b.assert("(= (bvmul x y) #b10011)")
	if v, e := b.check(); v != api.Unsat {
		t.Errorf("P17.3: %d, %v", v, e)
	}
}

// So much is resolved that the trace must be made shorter.
func TestLongTrace(t *testing.T) {
	b := newBench(t, api.Limits{})
	for _, p := range words(7, "x", "y") {
		b.Declare(p.Name, p.Sort)
	}
	b.Push(1)
	b.Assert(one(t, "(not (= (bvsub (bvmul x x) (bvmul y y)) (bvmul (bvadd x y) (bvsub x y))))"))
	for range 10 {
		v, e := b.Check(nil)
		if v == api.Unsat {
			bytes, e := b.Trace()
			b.want("P17.5: Trace", e, api.OK)
			b.want("P17.5: trace.Check", trace.Check(b.Clauses(), bytes), api.OK)
			return
		}
		b.want("P17.3: Check", e, api.ErrSatConflicts)
	}
	t.Error("P17.3: there is no end of it")
}

// Clauses and Learned are of the last check whose assumptions were right.
func TestWhoseClauses(t *testing.T) {
	b := newBench(t, api.Limits{}, words(8, "x", "y")...)
	none := func(what string) {
		t.Helper()
		if b.Clauses() != nil || b.Learned() != nil {
			t.Errorf("P17.6: clauses %s", what)
		}
	}
	none("ahead of all checks")
	b.Engine(api.EngineB)
	none("ahead of all checks")
	b.Engine(api.EngineA)
	b.assert(product...)
	none("ahead of all checks")
	b.Check(all(t, "wrong"))
	none("behind wrong assumptions")
	b.check()
	had, learned := b.Clauses(), b.Learned()
	same := func(what string) {
		t.Helper()
		if len(learned) == 0 || !slices.EqualFunc(b.Clauses(), had, slices.Equal[[]int]) || !slices.EqualFunc(b.Learned(), learned, slices.Equal[[]int]) {
			t.Errorf("P17.6: other clauses %s", what)
		}
	}
	b.Check(all(t, "wrong"))
	same("behind wrong assumptions")
	b.Engine(api.EngineB)
	same("behind Engine")
	b.push(2)
	b.assert("(= x y)")
	same("behind Push and Assert")
	b.Check(all(t, "x"))
	same("behind wrong assumptions of the other engine")
	b.pop(1)
	b.use(api.EngineB).check()
	none("behind a check of EngineB")
	b.Engine(api.EngineA)
	none("behind a check of EngineB")
	b.use(api.EngineA).check()
	if n := len(b.Clauses()); n != len(had)+1 {
		t.Errorf("P17.6: %d clauses, not one more than %d", n, len(had))
	}
}

// A check that was refused tells no clauses; the next one tells all.
func TestClausesOfRefused(t *testing.T) {
	st, _ := needs(t)
	b := newBench(t, api.Limits{Words: st.Words - 1}, words(8, "x", "y")...)
	b.push(1)
	b.assert(product...)
	if _, e := b.check(); e != api.ErrStoreMany || b.Clauses() != nil || len(b.Learned()) == 0 {
		t.Errorf("P17.6: %v: %d clauses, %d learned", e, len(b.Clauses()), len(b.Learned()))
	}
	b.pop(1)
	b.check()
	if len(b.emitted) < 100 {
		t.Errorf("P17.6: %d clauses of the refused check", len(b.emitted))
	}
}

// What was emitted can be made true whatever was asserted in frames that are gone.
func TestClausesBehindPop(t *testing.T) {
	b := newBench(t, api.Limits{}, words(3, "x")...)
	b.assert("(not (= x #b111))")
	for _, text := range []string{"false", "(= x #b111)", "(= x #b000)", "(bvult x x)"} {
		b.push(2)
		b.assert(text)
		b.check()
		b.check("(= x #b001)")
		b.pop(2)
		b.check("false")
		b.check()
	}
	b.assert("(= x #b111)")
	b.check("(= x #b001)")
	b.check()
}

func TestStores(t *testing.T) {
	b := newBench(t, api.Limits{Terms: 6}, words(4, "x")...)
	ask := func(what string, terms int) {
		t.Helper()
		if got := b.Stores(); got.Terms != terms || got.Graph != b.stores.Graph || got.Words != b.stores.Words || got.Vars != b.stores.Vars {
			t.Errorf("P17.7: %s: %+v, ahead %+v", what, got, b.stores)
		}
	}
	if got := newBench(t, api.Limits{}).Stores(); got != (api.Stores{}) {
		t.Errorf("P17.7: at first: %+v", got)
	}
	ask("behind Declare", 1)
	b.Declare("x", 5)
	b.Define("f", words(4, "a"), 0, one(t, "(bvult a #x3)"))
	ask("behind Define", 1)
	b.assert("(bvult x #x3)")
	ask("behind Assert", 3)
	b.Assert(one(t, "(f x)"))
	ask("behind the same once more", 3)
	b.Check(nil)
	b.stores = b.Stores()
	if got := b.stores; got.Terms != 3 || got.Graph == 0 || got.Words == 0 || got.Vars == 0 {
		t.Errorf("P17.7: behind Check: %+v", got)
	}
	b.Get(one(t, "(bvnot x)"))
	ask("behind Get", 4)
	b.want("P17.7: a Bool that is a word", b.Assert(one(t, "(bvneg x)")), api.ErrSessionSort)
	ask("behind a refused Assert", 5)
	b.want("P17.7: the last node", b.Declare("p", 0), api.OK)
	b.want("P17.7: one more variable", b.Declare("q", 0), api.ErrTermMany)
	b.want("P17.7: one more term", b.Assert(one(t, "(not p)")), api.ErrTermMany)
	b.want("P17.7: what is there", b.Assert(one(t, "p")), api.OK)
	if _, e := b.Check(all(t, "(f x)", "(f (bvneg x))")); e != api.ErrTermMany {
		t.Errorf("P17.7: one more assumption: %v", e)
	}
	b.want("P17.7: a variable that wasn't made is declared nowhere", b.Assert(one(t, "q")), api.ErrReadName)
	ask("of a full graph", 6)
}

// EngineB leaves EngineA's stores alone.
func TestStoresOfEngineB(t *testing.T) {
	b := newBench(t, api.Limits{}, words(8, "x", "y")...).use(api.EngineB).assert("(= (bvadd x y) #x0f)")
	b.check()
	b.checkCount()
	if got := b.Stores(); got.Graph != 0 || got.Words != 0 || got.Vars != 0 || got.Terms == 0 {
		t.Errorf("P17.7: %+v", got)
	}
}

func TestCount(t *testing.T) {
	b := newBench(t, api.Limits{}, append(words(3, "x", "y"), words(0, "p")...)...)
	b.checkCount()
	for _, text := range []string{"(bvult x y)", "(or p (= x #b001))", "(= (bvadd x y) (bvmul x y))", "(not p)", "false"} {
		b.push(1)
		b.assert(text)
		b.checkCount()
	}
	for b.Frames() > 0 {
		b.pop(1)
		b.checkCount()
	}
	wide := newBench(t, api.Limits{})
	if n, e := wide.Count(); n != "1" || e != api.OK {
		t.Errorf("P17.8: of nothing: %s, %v", n, e)
	}
	wide.Declare("x", 128)
	if n, e := wide.Count(); n != "340282366920938463463374607431768211456" || e != api.OK {
		t.Errorf("P17.8: of a wide word: %s, %v", n, e)
	}
	wide.Assert(one(t, "(bvugt x #x00000000000000000000000000000000)"))
	if n, e := wide.Count(); n != "340282366920938463463374607431768211455" || e != api.OK {
		t.Errorf("P17.8: of a wide word above 0: %s, %v", n, e)
	}
	// A name that nothing is said of counts, too.
	wide.Declare("p", 0)
	if n, e := wide.Count(); n != "680564733841876926926749214863536422910" || e != api.OK {
		t.Errorf("P17.8: of a wide word above 0, and a Bool: %s, %v", n, e)
	}
}
