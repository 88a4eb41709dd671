package sat

const (
	none    = -1 // no clause
	watched = 2  // how many literals of a clause are watched
)

// trail: the literals that are true, why, and the clauses that watch for what follows. What is true at level 0 follows from the clauses alone, and stays.
type trail struct {
	clauses [][]lit   // by their numbers; the first two literals of each are watched
	places  []int     // by clauses' numbers: where the search for another literal to watch goes on, so that a wide clause isn't gone through each time
	watches [][]watch // by literals: the clauses that watch it
	truths  []bool    // by literals
	levels  []int     // by variables that have a value
	reasons []uint    // by variables that have a value: 1 more than the number of the clause whose first literal was its last one left; 0, if it was chosen
	lits    []lit     // the true ones, in the order in which they came to be
	starts  []int     // where in lits each level above 0 begins
	seen    int       // how many of lits were followed
}

// watch: a clause that watches a literal, and another literal of it: if that is true, the clause needn't be looked at.
type watch struct {
	ref   int
	other lit
}

// makeRoom sees to it that there is room for a variable.
func (t *trail) makeRoom(v uint) {
	lack := int(v) + 1 - len(t.levels)
	if lack <= 0 {
		return
	}
	t.levels = append(t.levels, make([]int, lack)...)
	t.reasons = append(t.reasons, make([]uint, lack)...)
	t.truths = append(t.truths, make([]bool, 2*lack)...)
	t.watches = append(t.watches, make([][]watch, 2*lack)...)
}

// depth tells the level.
func (t *trail) depth() int { return len(t.starts) }

// isTrue tells whether a literal is true.
func (t *trail) isTrue(x lit) bool { return t.truths[x] }

// isFalse tells whether a literal's opposite is true.
func (t *trail) isFalse(x lit) bool { return t.truths[x.turned()] }

// level tells at which level a literal, or its opposite, came to be true.
func (t *trail) level(x lit) int { return t.levels[x.variable()] }

// reason tells the clause whose last one left a literal was, or its opposite, or none.
func (t *trail) reason(x lit) int { return int(t.reasons[x.variable()]) - 1 }

// put makes a literal true that has no value.
func (t *trail) put(x lit, reason int) {
	v := x.variable()
	t.truths[x] = true
	t.levels[v] = t.depth()
	t.reasons[v] = uint(reason + 1)
	t.lits = append(t.lits, x)
}

// rise begins a level.
func (t *trail) rise() { t.starts = append(t.starts, len(t.lits)) }

// drop takes the value of the last literal back.
func (t *trail) drop() lit {
	last := len(t.lits) - 1
	x := t.lits[last]
	t.lits = t.lits[:last]
	t.truths[x] = false
	return x
}

// falseLast tells a clause's literals in the order in which they are to be watched, and how many of them aren't false. What is false at level 0 stays so.
func (t *trail) falseLast(clause []lit) ([]lit, int) {
	var left, rest []lit
	for _, x := range clause {
		if t.isFalse(x) {
			rest = append(rest, x)
		} else {
			left = append(left, x)
		}
	}
	return append(left, rest...), len(left)
}

// hold takes up a clause, the two literals first that are to be watched.
func (t *trail) hold(clause []lit) {
	ref := len(t.clauses)
	t.clauses = append(t.clauses, clause)
	t.places = append(t.places, watched)
	if len(clause) >= watched {
		t.watch(clause[0], watch{ref, clause[1]})
		t.watch(clause[1], watch{ref, clause[0]})
	}
}

// watch lets a clause watch a literal.
func (t *trail) watch(x lit, w watch) { t.watches[x] = append(t.watches[x], w) }

// follow puts all that follows from what is true, by single steps, and tells a clause all of whose literals are false, or none.
func (t *trail) follow() int {
	for t.seen < len(t.lits) {
		x := t.lits[t.seen].turned()
		t.seen++
		if ref := t.visit(x); ref != none {
			return ref
		}
	}
	return none
}

// visit sees to the clauses that watch a literal which is false now. Those that go on watching it stay in its list.
func (t *trail) visit(x lit) int {
	list := t.watches[x]
	kept := list[:0]
	for i, w := range list {
		if t.isTrue(w.other) {
			kept = append(kept, w)
			continue
		}
		clause := t.clauses[w.ref]
		if clause[0] == x {
			clause[0], clause[1] = clause[1], x
		}
		first := clause[0]
		if !t.isTrue(first) && t.moveOn(clause, w.ref) {
			continue
		}
		kept = append(kept, watch{w.ref, first})
		if t.isFalse(first) {
			t.watches[x] = append(kept, list[i+1:]...)
			return w.ref
		}
		if !t.isTrue(first) {
			t.put(first, w.ref)
		}
	}
	t.watches[x] = kept
	return none
}

// moveOn lets a clause watch another literal in the place of its second one, if it has one that isn't false.
func (t *trail) moveOn(clause []lit, ref int) bool {
	at, found := t.open(clause, t.places[ref], len(clause))
	if !found {
		at, found = t.open(clause, watched, t.places[ref])
	}
	if !found {
		return false
	}
	t.places[ref] = at
	clause[1], clause[at] = clause[at], clause[1]
	t.watch(clause[1], watch{ref, clause[0]})
	return true
}

// open tells the place of a literal that isn't false, among those from one place on up to another one.
func (t *trail) open(clause []lit, from, to int) (int, bool) {
	for i, x := range clause[from:to] {
		if !t.isFalse(x) {
			return from + i, true
		}
	}
	return 0, false
}
