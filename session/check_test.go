package session_test

import (
	"strconv"
	"strings"
	"testing"

	"plait/api"
)

func TestCheck(t *testing.T) {
	both(t, func(t *testing.T, engine int) {
		b := newBench(t, api.Limits{}, append(words(4, "x", "y"), words(0, "p")...)...).use(engine)
		ask := func(want int, assume ...string) {
			t.Helper()
			if v, e := b.check(assume...); v != want || e != api.OK {
				t.Errorf("P17.3: %v: %d, %v", assume, v, e)
			}
			b.checkCount()
		}
		ask(api.Sat)
		ask(api.Sat, "true", "p", "p")
		ask(api.Unsat, "false")
		ask(api.Unsat, "p", "(not p)")
		b.assert("(bvult x #x3)")
		b.push(1)
		b.assert("(= x #x7)")
		ask(api.Unsat)
		ask(api.Unsat, "p")
		b.pop(1)
		ask(api.Sat)
		ask(api.Unsat, "(= x #x5)")
		ask(api.Sat, "(= x #x2)", "(= (bvmul x y) #xe)")
		ask(api.Unsat, "(= x #x2)", "(= (bvmul x y) #xd)")
		b.assert("true", "(= x x)")
		ask(api.Sat)
		b.assert("false")
		ask(api.Unsat)
		ask(api.Unsat, "p")
		b.push(1)
		ask(api.Unsat)
	})
}

// No names at all.
func TestCheckOfNothing(t *testing.T) {
	both(t, func(t *testing.T, engine int) {
		b := newBench(t, api.Limits{}).use(engine)
		for _, text := range []string{"true", "(bvult #b01 #b10)", "(= (bvudiv #x7 #x0) #xf)", "(= (bvurem #x7 #x0) #x0)"} {
			b.check()
			b.checkCount()
			b.check(text)
			b.check("(not " + text + ")")
			b.push(1)
			b.assert(text)
		}
		b.check()
		b.checkCount()
	})
}

func TestWrongAssumptions(t *testing.T) {
	both(t, func(t *testing.T, engine int) {
		b := newBench(t, api.Limits{}, append(words(4, "x"), words(0, "p")...)...).use(engine)
		b.assert("(bvult x #x3)")
		for _, c := range []struct {
			l    []string
			want api.Errno
		}{
			{[]string{"x"}, api.ErrSessionSort},
			{[]string{"p", "x", "q"}, api.ErrSessionSort},
			{[]string{"p", "q", "x"}, api.ErrReadName},
			{[]string{"false", "(bvadd p x)"}, api.ErrTermSort},
			{[]string{"#xg"}, api.ErrReadWord},
		} {
			b.check()
			if v, e := b.Check(all(t, c.l...)); v != api.Unknown || e != c.want {
				t.Errorf("P17.3: %v: %d, %v, not %v", c.l, v, e, c.want)
			}
			if _, e := b.Model(); e != api.ErrSessionModel {
				t.Errorf("P17.4: a model behind wrong assumptions: %v", e)
			}
		}
		if v, e := b.check("p"); v != api.Sat {
			t.Errorf("P30.8: behind wrong assumptions: %d, %v", v, e)
		}
	})
}

// product asks for factors that take some search.
var product = []string{"(= (bvmul x y) #b10001111)", "(bvult #b00000001 x)", "(bvult x y)", "(not (= x #b00001011))"}

// needs tells what a check of the product takes.
func needs(t *testing.T) (api.Stores, int) {
	t.Helper()
	b := newBench(t, api.Limits{}, words(8, "x", "y")...).assert(product...)
	if v, e := b.check(); v != api.Sat || len(b.Learned()) < 2 {
		t.Fatalf("P17.3: %d, %v, %d learned", v, e, len(b.Learned()))
	}
	return b.Stores(), len(b.Learned())
}

func TestExactLimits(t *testing.T) {
	st, conflicts := needs(t)
	for _, c := range []struct {
		l    api.Limits
		want api.Errno
	}{
		{api.Limits{Terms: st.Terms, Graph: st.Graph, Words: st.Words, Conflicts: conflicts + 1}, api.OK},
		{api.Limits{Graph: st.Graph - 1}, api.ErrAigMany},
		{api.Limits{Graph: 1}, api.ErrAigMany},
		{api.Limits{Words: st.Words - 1}, api.ErrStoreMany},
		{api.Limits{Words: 1}, api.ErrStoreMany},
		{api.Limits{Conflicts: 1}, api.ErrSatConflicts},
		{api.Limits{Conflicts: conflicts - 1}, api.ErrSatConflicts},
		{api.Limits{Terms: 1 << 13, Graph: 1 << 16, Words: 1 << 19, Nodes: 1 << 15, Conflicts: 2001}, api.OK},
		{api.Limits{Terms: -1, Graph: -1, Words: -1, Nodes: -1, Conflicts: -1}, api.OK},
	} {
		b := newBench(t, c.l, words(8, "x", "y")...).assert(product...)
		if v, e := b.check(); e != c.want || e != api.OK && v != api.Unknown {
			t.Errorf("P17.3: %+v: %d, %v, not %v", c.l, v, e, c.want)
		}
	}
}

// A check is refused, as all that is in a frame has no room; without that frame it has.
func TestRefusedInFrame(t *testing.T) {
	small := newBench(t, api.Limits{}, words(8, "x", "y")...).assert("(bvult x y)")
	small.push(1)
	small.check()
	st := small.Stores()
	for _, c := range []struct {
		l    api.Limits
		want api.Errno
	}{
		{api.Limits{Words: st.Words + 60}, api.ErrStoreMany}, {api.Limits{Graph: st.Graph + 60}, api.ErrAigMany},
	} {
		b := newBench(t, c.l, words(8, "x", "y")...).assert("(bvult x y)")
		b.check()
		ahead := b.Stores()
		for range 3 {
			b.push(1)
			b.assert(product...)
			for range 2 {
				if _, e := b.check(); e != c.want {
					t.Fatalf("P17.3: %+v: %v", c.l, e)
				}
			}
			if got := b.Stores(); got.Words != ahead.Words || got.Vars != ahead.Vars {
				t.Errorf("P17.3: clauses of a refused check stay: %v, ahead %v", got, ahead)
			}
			b.pop(1)
			if v, e := b.check(); v != api.Sat {
				t.Errorf("P30.8: behind what was refused: %d, %v", v, e)
			}
			if v, e := b.check("(= x #xff)"); v != api.Unsat && e != c.want {
				t.Errorf("P30.8: behind what was refused: %d, %v", v, e)
			}
			ahead = b.Stores()
		}
	}
}

// What was told of a refused check is told again where there is room for it.
func TestRefusedThenSmaller(t *testing.T) {
	st, _ := needs(t)
	b := newBench(t, api.Limits{Words: st.Words / 2}, words(8, "x", "y")...)
	b.push(1)
	b.assert(product[0])
	if _, e := b.check(); e != api.ErrStoreMany {
		t.Fatalf("P17.3: %v", e)
	}
	b.pop(1)
	// A part of the same circuit.
	b.assert("(= ((_ extract 1 0) (bvmul x y)) #b11)", "(= ((_ extract 1 0) x) #b01)")
	if v, e := b.check(); v != api.Sat {
		t.Errorf("P30.8: %d, %v", v, e)
	}
	b.assert("(not (= ((_ extract 1 0) y) #b11))")
	if v, e := b.check(); v != api.Unsat {
		t.Errorf("P30.8: %d, %v", v, e)
	}
}

// There are as many clause variables as may be, and not one more.
func TestVars(t *testing.T) {
	b := newBench(t, api.Limits{}, words(0, "p", "q")...).assert("p")
	for b.Stores().Vars < api.MaxVars-api.MaxFrames {
		b.Push(api.MaxFrames)
		if v, e := b.Check(nil); v != api.Sat || e != api.OK {
			t.Fatalf("P17.3: %d, %v with %v", v, e, b.Stores())
		}
		b.Pop(api.MaxFrames)
	}
	room := api.MaxVars - b.Stores().Vars
	b.push(room + 1)
	if v, e := b.Check(nil); v != api.Unknown || e != api.ErrCnfVars || b.Clauses() != nil || b.Stores().Vars+room != api.MaxVars {
		t.Errorf("P17.3: %d, %v with %v", v, e, b.Stores())
	}
	b.pop(room + 1)
	b.push(room - 1)
	for _, text := range []string{"p", "q", "(not q)", "(not p)", "(and p q)"} {
		v, e := b.Check(all(t, text))
		switch {
		case text == "(and p q)":
			if v != api.Unknown || e != api.ErrCnfVars {
				t.Errorf("P17.3: %s: %d, %v with %v", text, v, e, b.Stores())
			}
		case e != api.OK || v != api.Sat && text != "(not p)":
			t.Errorf("P17.3: %s: %d, %v with %v", text, v, e, b.Stores())
		}
	}
	if b.Stores().Vars != api.MaxVars {
		t.Errorf("P17.7: %v", b.Stores())
	}
	if v, e := b.Check(all(t, "q")); v != api.Sat || e != api.OK {
		t.Errorf("P30.8: %d, %v", v, e)
	}
}

// There are as many words as may be, whatever more was asked for.
func TestFullArena(t *testing.T) {
	b := newBench(t, api.Limits{Words: 1 << 30})
	names := words(0)
	for i := range 200 {
		names = append(names, api.Param{Name: "p" + strconv.Itoa(i)})
	}
	for _, p := range names {
		b.Declare(p.Name, p.Sort)
	}
	// A frame's literal, and a name: a clause of four words.
	const each = api.MaxFrames * 200 * 4
	for n := 0; ; n++ {
		for range api.MaxFrames {
			b.Push(1)
			for _, p := range names {
				b.Assert(api.Sexp{Word: p.Name})
			}
		}
		ahead := b.Stores().Words
		v, e := b.Check(nil)
		if ahead+each > api.MaxArena {
			if v != api.Unknown || e != api.ErrStoreMany || n < 3 || b.Stores().Words != ahead {
				t.Errorf("P17.3: %d, %v with %v", v, e, b.Stores())
			}
			break
		}
		if v != api.Sat || e != api.OK || b.Stores().Words < ahead+each {
			t.Fatalf("P17.3: %d, %v with %v", v, e, b.Stores())
		}
		b.Pop(api.MaxFrames)
	}
	b.Pop(api.MaxFrames)
	if v, e := b.Check(nil); v != api.Sat || e != api.OK {
		t.Errorf("P30.8: %d, %v with %v", v, e, b.Stores())
	}
}

// Few variables: so few clauses can be learned that there are never too many.
func TestConflictsOfFewVars(t *testing.T) {
	for _, text := range []string{"(xor p q)", "(and (xor p q) (= p q))", "(and (or p q) (and (or p (not q)) (and (or (not p) q) (or (not p) (not q)))))"} {
		free := newBench(t, api.Limits{}, words(0, "p", "q")...).assert(text)
		free.check()
		most := 1
		for range free.Stores().Vars {
			most = min(3*most, api.MaxConflicts)
		}
		b := newBench(t, api.Limits{Conflicts: most + 1}, words(0, "p", "q")...).assert(text)
		for _, assume := range [][]string{nil, {"p"}, {"(not q)", "p"}} {
			if _, e := b.check(assume...); e != api.OK {
				t.Errorf("P30.7: %s with %v: %v, with %v", text, assume, e, b.Stores())
			}
		}
	}
}

// Checks that learn as much as they may, one behind the other, get on.
func TestManyConflicts(t *testing.T) {
	for _, conflicts := range []int{1, 7, 40} {
		b := newBench(t, api.Limits{Conflicts: conflicts}, words(4, "x", "y")...)
		b.assert("(not (= (bvmul (bvadd x y) (bvadd x y)) (bvadd (bvmul x x) (bvadd (bvmul y y) (bvmul #x2 (bvmul x y))))))")
		v := api.Unknown
		for n := 0; v == api.Unknown && n < 3000/conflicts+60; n++ {
			if n%40 == 39 || conflicts > 1 {
				v, _ = b.check()
			} else {
				v, _ = b.Check(nil)
				b.pending = append(b.pending, b.Learned()...)
			}
		}
		if v != api.Unsat {
			t.Errorf("P17.3: with %d conflicts: %d, %v", conflicts, v, b.ends)
		}
		if len(b.Learned()) >= len(b.sets)-len(b.emitted) {
			t.Errorf("P17.3: with %d conflicts a check was enough", conflicts)
		}
		b.push(1)
		b.check("(= x y)")
	}
}

func TestNodes(t *testing.T) {
	b := newBench(t, api.Limits{Nodes: 60}, words(6, "x", "y")...).use(api.EngineB)
	b.assert("(bvult x #b000011)")
	b.check()
	b.checkCount()
	b.push(1)
	b.assert("(= (bvmul x y) #b010101)", "(= (bvmul y y) (bvadd x #b010101))")
	if v, e := b.check(); v != api.Unknown || e != api.ErrDdNodes {
		t.Errorf("P17.3: %d, %v", v, e)
	}
	if n, e := b.Count(); n != "" || e != api.ErrDdNodes {
		t.Errorf("P17.8: %s, %v", n, e)
	}
	b.pop(1)
	if v, e := b.check(); v != api.Sat {
		t.Errorf("P30.8: %d, %v", v, e)
	}
	b.checkCount()
}

// What was joined already takes no room any more.
func TestNodesOfManyTerms(t *testing.T) {
	b := newBench(t, api.Limits{Nodes: 40}, words(8, "x")...).use(api.EngineB)
	for n := range 60 {
		b.assert("(bvult x (_ bv" + strconv.Itoa(200-3*n) + " 8))")
	}
	b.push(1)
	for n := range 20 {
		b.assert("(bvugt x (_ bv" + strconv.Itoa(n) + " 8))")
	}
	if v, e := b.check(); v != api.Sat {
		t.Errorf("P17.3: %d, %v", v, e)
	}
	b.checkCount()
	if v, e := b.check("(= x #x13)"); v != api.Unsat {
		t.Errorf("P17.3: %d, %v", v, e)
	}
}

// EngineA simplifies: the circuit of this product would not have room.
func TestSimplified(t *testing.T) {
	b := newBench(t, api.Limits{Graph: 100})
	b.Declare("x", 128)
	b.Declare("y", 128)
	b.Assert(one(t, "(= (bvmul x y) (bvmul x y))"))
	if v, e := b.Check(nil); v != api.Sat || e != api.OK {
		t.Errorf("P17.3: %d, %v", v, e)
	}
	if v, e := b.Check(all(t, "(not (= (bvmul x y) (bvmul x y)))")); v != api.Unsat || e != api.OK {
		t.Errorf("P17.3: %d, %v", v, e)
	}
}

// As many bits as may be have names, and then one more.
func TestBits(t *testing.T) {
	b := newBench(t, api.Limits{})
	for i := range 32 {
		b.want("Declare", b.Declare("x"+strings.Repeat("i", i), 128), api.OK)
	}
	b.use(api.EngineB)
	last := "x" + strings.Repeat("i", 31)
	b.want("Assert", b.Assert(one(t, "(= ((_ extract 127 120) "+last+") #x55)")), api.OK)
	if v, e := b.Check(nil); v != api.Sat || e != api.OK {
		t.Errorf("P17.3: 4096 bits: %d, %v", v, e)
	}
	if v, e := b.Get(one(t, last)); v.Hi>>56 != 0x55 || e != api.OK {
		t.Errorf("P17.4: %v, %v", v, e)
	}
	b.want("Assert", b.Assert(one(t, "(distinct x "+last+")")), api.OK)
	if v, e := b.Check(nil); v != api.Sat || e != api.OK {
		t.Errorf("P17.3: 4096 bits: %d, %v", v, e)
	}
	b.Declare("p", 0)
	if v, e := b.Check(nil); v != api.Unknown || e != api.ErrDdVar {
		t.Errorf("P17.3: 4097 bits: %d, %v", v, e)
	}
	if n, e := b.Count(); n != "" || e != api.ErrDdVar {
		t.Errorf("P17.8: 4097 bits: %s, %v", n, e)
	}
	b.use(api.EngineA)
	if v, e := b.Check(nil); v != api.Sat || e != api.OK {
		t.Errorf("P17.3: 4097 bits, EngineA: %d, %v", v, e)
	}
	if m, e := b.Model(); len(m) != 33 || e != api.OK || m[31].V.Hi>>56 != 0x55 {
		t.Errorf("P17.4: %d names, %v", len(m), e)
	}
}

// What EngineA makes of terms has a graph of its own: the one that is read into may be full.
func TestFullTerms(t *testing.T) {
	b := newBench(t, api.Limits{Terms: 4}, words(4, "x", "y")...)
	b.assert("(= (bvsub x y) x)")
	if got := b.Stores().Terms; got != 4 {
		t.Fatalf("P17.7: %d terms", got)
	}
	if v, e := b.check(); v != api.Sat {
		t.Errorf("P17.3: %d, %v", v, e)
	}
	if v, e := b.Check(all(t, "(= y x)")); v != api.Unknown || e != api.ErrTermMany {
		t.Errorf("P17.7: an assumption in a full graph: %d, %v", v, e)
	}
	if v, e := b.check("(= (bvsub x y) x)"); v != api.Sat {
		t.Errorf("P17.7: an assumption that was made: %d, %v", v, e)
	}
}
