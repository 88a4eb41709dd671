package sat

// order: which variable is chosen next: of those that wait the one of the greatest weight. They lie in a heap.
type order struct {
	weights []uint64 // by variables
	saved   []lit    // by variables: the literal of it that was true last
	used    []bool   // by variables: whether a clause has it
	places  []int    // by variables: 1 more than its place in the heap; 0, if it isn't there
	heap    []uint
	now     uint64 // the number of the last conflict, in small parts
}

// makeRoom sees to it that there is room for a variable. At first each is chosen true.
func (o *order) makeRoom(v uint) {
	for n := uint(len(o.weights)); n <= v; n++ {
		o.weights = append(o.weights, 0)
		o.saved = append(o.saved, lit(n)<<1)
		o.used = append(o.used, false)
		o.places = append(o.places, 0)
	}
}

// use lets a variable be chosen from now on.
func (o *order) use(v uint) {
	if !o.used[v] {
		o.used[v] = true
		o.add(v)
	}
}

// isUsed tells whether a clause has a variable.
func (o *order) isUsed(v uint) bool { return o.used[v] }

// putBack lets the variable of a literal that was true wait again, if a clause has it.
func (o *order) putBack(x lit) {
	v := x.variable()
	o.saved[v] = x
	if o.used[v] {
		o.add(v)
	}
}

// ahead tells whether one variable is chosen ahead of another one.
func (o *order) ahead(a, b uint) bool {
	return o.weights[a] > o.weights[b] || o.weights[a] == o.weights[b] && a > b
}

// add lets a variable wait.
func (o *order) add(v uint) {
	if o.places[v] > 0 {
		return
	}
	o.heap = append(o.heap, v)
	o.up(len(o.heap)-1, v)
}

// next takes out the variable that is to be chosen.
func (o *order) next() (uint, bool) {
	if len(o.heap) == 0 {
		return 0, false
	}
	first, last := o.heap[0], len(o.heap)-1
	o.places[first] = 0
	v := o.heap[last]
	o.heap = o.heap[:last]
	if last > 0 {
		o.down(v)
	}
	return first, true
}

// weigh lifts the weights of the variables that were met in a conflict, a part of the way up to this conflict's number: so those come first that were met often, and of late.
func (o *order) weigh(lits []lit) {
	o.now += 1 << 20
	for _, x := range lits {
		v := x.variable()
		o.weights[v] += (o.now - o.weights[v]) >> 5
		if o.places[v] > 0 {
			o.up(o.places[v]-1, v)
		}
	}
}

// set puts a variable at a place of the heap.
func (o *order) set(at int, v uint) {
	o.heap[at] = v
	o.places[v] = at + 1
}

// up puts a variable at a place of the heap, or nearer to its top.
func (o *order) up(at int, v uint) {
	for at > 0 {
		above := (at - 1) / 2
		if !o.ahead(v, o.heap[above]) {
			break
		}
		o.set(at, o.heap[above])
		at = above
	}
	o.set(at, v)
}

// down puts a variable at the top of the heap, or further down.
func (o *order) down(v uint) {
	at := 0
	for {
		below := 2*at + 1
		if below >= len(o.heap) {
			break
		}
		if below+1 < len(o.heap) && o.ahead(o.heap[below+1], o.heap[below]) {
			below++
		}
		if !o.ahead(o.heap[below], v) {
			break
		}
		o.set(at, o.heap[below])
		at = below
	}
	o.set(at, v)
}
