package session_test

import (
	"math/rand"
	"slices"
	"testing"

	"plait/api"
)

// sayings are of x, y of 3 bits, and p.
var sayings = []string{
	"(= (bvadd x y) #b101)", "(bvult x y)", "(not (= x y))", "(bvslt y x)", "p", "(=> p (= (bvurem x y) #b010))", "(= (bvudiv y x) #b001)", "(distinct x y #b000)", "(= (bvshl x y) (bvlshr y x))", "(xor p (bvule x #b011))", "(= (bvsdiv x y) (bvsmod y x))", "(= ((_ rotate_left 1) x) (bvashr y x))", "(= ((_ extract 1 0) (bvmul x y)) #b11)", "(ite p (bvsge x y) (= (bvcomp x y) #b1))", "(= (bvnor x y) (bvneg x))", "(= (concat x y) ((_ sign_extend 3) (bvsub y x)))", "(= (bvmul x x) (bvmul y y))", "(not p)", "(or (= x #b111) (= y #b111))", "(bvugt (bvor x y) (bvxnor x y))",
}

// twins are two sessions that are told the same, each with an engine of its own.
type twins struct {
	a, b   *bench
	source *rand.Rand
	log    []string
}

func newTwins(t *testing.T, seed int64, l api.Limits) *twins {
	names := append(words(3, "x", "y"), words(0, "p")...)
	w := &twins{a: newBench(t, l, names...), b: newBench(t, l, names...), source: rand.New(rand.NewSource(seed))}
	w.b.use(api.EngineB)
	return w
}

func (w *twins) some() string { return sayings[w.source.Intn(len(sayings))] }

// each does the same with both.
func (w *twins) each(what string, do func(b *bench)) {
	w.log = append(w.log, what)
	do(w.a)
	do(w.b)
}

// turn does something by chance.
func (w *twins) turn() {
	n := w.source.Intn(3)
	switch text := w.some(); w.source.Intn(7) {
	case 0:
		w.each("push", func(b *bench) {
			if b.Frames()+n <= api.MaxFrames {
				b.push(n)
			}
		})
	case 1:
		w.each("pop", func(b *bench) { b.pop(min(n, b.Frames())) })
	case 2, 3:
		w.each(text, func(b *bench) { b.assert(text) })
	case 4:
		w.each("pop all", func(b *bench) { b.pop(b.Frames()); b.push(1) })
	}
}

// check asks both, and holds them against one another.
func (w *twins) check() {
	w.a.Helper()
	var assume []string
	for range max(0, w.source.Intn(5)-1) {
		assume = append(assume, w.some())
	}
	v, e := w.a.check(assume...)
	u, f := w.b.check(assume...)
	if e == api.OK && f == api.OK && u != v {
		w.a.Fatalf("P17.10: %d and %d behind %v", v, u, w.log)
	}
	c, f := w.b.Count()
	if f == api.OK && e == api.OK && len(assume) == 0 && (c == "0") != (v == api.Unsat) {
		w.a.Fatalf("P17.10: Count: %s, but %d behind %v", c, v, w.log)
	}
	if f == api.OK {
		w.b.checkCount()
	}
}

func TestMany(t *testing.T) {
	for seed := range int64(12) {
		w := newTwins(t, seed, api.Limits{})
		for range 50 {
			w.turn()
			w.check()
		}
		if w.a.ends["sat"]+w.a.ends["unsat"] != 50 || !slices.Equal(w.a.Asserted(), w.b.Asserted()) {
			t.Errorf("P17.3: %v", w.a.ends)
		}
	}
}

// With little room many checks are refused: the others tell what is so nevertheless.
func TestManyWithLimits(t *testing.T) {
	ends := map[string]int{}
	for seed := range int64(60) {
		l := api.Limits{Graph: 60 + 10*int(seed), Conflicts: 1 + int(seed%5), Nodes: 10 + 2*int(seed)}
		if seed%3 == 0 {
			l = api.Limits{Words: 100 + 40*int(seed), Nodes: 20}
		}
		w := newTwins(t, seed, l)
		for range 30 {
			w.turn()
			w.check()
		}
		for _, b := range []*bench{w.a, w.b} {
			for k, n := range b.ends {
				ends[k] += n
			}
		}
	}
	for _, end := range []string{"sat", "unsat", "81", "111", "131", "141"} {
		if ends[end] < 5 {
			t.Errorf("P17.3: %v", ends)
		}
	}
}

// The same commands tell the same, byte for byte.
func TestSameAgain(t *testing.T) {
	var told [2][]byte
	var clauses [2][][]int
	for i := range told {
		w := newTwins(t, 3, api.Limits{})
		for range 20 {
			w.turn()
			w.check()
		}
		w.a.assert("(= (bvmul x y) #b011)", "(= (bvmul x x) (bvmul y y))", "(not (= x y))", "(bvult x #b011)")
		w.a.check()
		told[i], _ = w.a.Trace()
		clauses[i] = w.a.Clauses()
	}
	if !slices.Equal(told[0], told[1]) || !slices.EqualFunc(clauses[0], clauses[1], slices.Equal[[]int]) {
		t.Error("P30.2: the same commands tell something else")
	}
}
