package store

// What Follow tells beside the literals, where no clause has all its literals false.
const (
	settled = -1 // all was set
	refused = -2 // one of the literals can't be set
)

// walk: what one Follow knows. A literal that is true stays so up to its end; so a watch that was moved on needs no way back, and each literal's list is gone through once.
type walk struct {
	store  *Store
	truths []bool // by literals as unsigned numbers
	told   []int  // the literals that are true, in the order in which they came to be
	seen   int    // how many of these were followed
	moves  []move
}

// move: a clause that watches another literal than it did ahead of this Follow.
type move struct {
	ref int
	to  uint // the literal as an unsigned number
}

// Follow tells what follows from literals.
func (s *Store) Follow(lits []int) ([]int, int) {
	w := walk{store: s, truths: make([]bool, s.reach(lits))}
	end := w.all(lits)
	w.undo()
	return w.told, end
}

// reach tells how long a list by unsigned numbers must be for all literals of the clauses and those that are handed in.
func (s *Store) reach(lits []int) int {
	n := len(s.watches)
	for _, l := range lits {
		if isLiteral(l) {
			n = max(n, span(l))
		}
	}
	return n
}

// all sets what the shortest clauses ask for, then each of the literals, and tells how it ended.
func (w *walk) all(lits []int) int {
	if end := w.begin(); end != settled {
		return end
	}
	for _, l := range lits {
		if !isLiteral(l) || w.isFalse(l) {
			return refused
		}
		w.set(l)
		if end := w.settle(); end != settled {
			return end
		}
	}
	return settled
}

// begin sets what follows from the clauses alone.
func (w *walk) begin() int {
	for _, ref := range w.store.short {
		clause := w.store.literals(ref)
		if len(clause) == 0 || w.isFalse(clause[0]) {
			return ref
		}
		w.set(clause[0])
	}
	return w.settle()
}

// isTrue tells whether a literal is true.
func (w *walk) isTrue(l int) bool { return w.truths[code(l)] }

// isFalse tells whether a literal's opposite is true.
func (w *walk) isFalse(l int) bool { return w.truths[code(-l)] }

// set makes a literal true that isn't false.
func (w *walk) set(l int) {
	if w.isTrue(l) {
		return
	}
	w.truths[code(l)] = true
	w.told = append(w.told, l)
}

// settle follows all that was set, and what is set on the way.
func (w *walk) settle() int {
	for w.seen < len(w.told) {
		l := -w.told[w.seen]
		w.seen++
		for _, ref := range w.store.watching(l) {
			if !w.turn(ref, l) {
				return ref
			}
		}
	}
	return settled
}

// turn sees to a clause that watches a literal which is false now: it watches another one, or its last one left is set. It tells false if none is left.
func (w *walk) turn(ref, l int) bool {
	words := w.store.words(ref)
	places, clause := words[:watched:watched], words[watched:]
	mine, its := 0, 1
	if clause[places[mine]] != l {
		mine, its = its, mine
	}
	other := clause[places[its]]
	if w.isTrue(other) {
		return true
	}
	// All that lies ahead of the further one of its places, and isn't watched, was found false before.
	further := max(places[mine], places[its]) + 1
	for i := range len(clause) - further {
		if place := further + i; !w.isFalse(clause[place]) {
			places[mine] = place
			w.note(ref, clause[place])
			return true
		}
	}
	if w.isFalse(other) {
		return false
	}
	w.set(other)
	return true
}

// note puts a clause into the list of a literal that it watches from now on.
func (w *walk) note(ref, l int) {
	c := code(l)
	w.store.watches[c] = append(w.store.watches[c], ref)
	w.moves = append(w.moves, move{ref, c})
}

// undo puts all watches back, so that no Follow hangs on one ahead of it.
func (w *walk) undo() {
	for _, m := range w.moves {
		list := w.store.watches[m.to]
		w.store.watches[m.to] = list[:len(list)-1]
		words := w.store.words(m.ref)
		for place := range watched {
			words[place] = place
		}
	}
}
