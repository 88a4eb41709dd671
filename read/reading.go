package read

import (
	"strings"

	"plait/api"
	"plait/bv"
)

// mostTerms: that one call goes through.
const mostTerms = 1 << 16

// reading: of one text.
type reading struct {
	scope *Scope
	words map[string]operator
	gone  int // terms gone through
}

// place: where a term stands.
type place struct {
	bound *frame
	sees  int // so many of the scope's names, the earliest ones
	depth int
}

func (p place) deeper() place {
	p.depth++
	return p
}

// frame: what a let, or a definition's use, binds.
type frame struct {
	ids   map[string]int
	outer *frame
}

// find goes from the innermost frame outwards.
func (f *frame) find(name string) (id int, ok bool) {
chain:
	for ; f != nil; f = f.outer {
		if id, ok = f.ids[name]; ok {
			break chain
		}
	}
	return id, ok
}

// term counts what is gone through ahead of looking at it: the limits' errors come first.
func (r *reading) term(x api.Sexp, at place) (int, api.Errno) {
	if at.depth > api.MaxDepth {
		return 0, api.ErrReadForm
	}
	if r.gone == mostTerms {
		return 0, api.ErrReadMany
	}
	r.gone++
	if !x.List {
		return r.word(x.Word, at)
	}
	if len(x.Kids) == 0 {
		return 0, api.ErrReadForm
	}
	head, rest := x.Kids[0], x.Kids[1:]
	if head.List {
		return r.numbered(head.Kids, rest, at)
	}
	return r.headed(head.Word, rest, at)
}

func (r *reading) terms(l []api.Sexp, at place) ([]int, api.Errno) {
	var ids []int
	for _, x := range l {
		id, e := r.term(x, at)
		if e != api.OK {
			return nil, e
		}
		ids = append(ids, id)
	}
	return ids, api.OK
}

func (r *reading) word(w string, at place) (int, api.Errno) {
	if v, e := bv.Parse(w); e == api.OK {
		return r.constant(v)
	}
	if !isName(w, r.words) {
		return 0, api.ErrReadWord
	}
	if id, ok := at.bound.find(w); ok {
		return id, api.OK
	}
	k, ok := r.seen(w, at)
	switch {
	case !ok:
		return 0, api.ErrReadName
	case k.def == nil:
		return k.id, api.OK
	case len(k.def.params) > 0:
		return 0, api.ErrReadForm
	}
	return r.body(k, nil, at)
}

// seen tells what the scope's name is, if it is seen there.
func (r *reading) seen(name string, at place) (known, bool) {
	k, ok := r.scope.has[name]
	return k, ok && k.rank < at.sees
}

// headed reads a list that begins with a word.
func (r *reading) headed(head string, rest []api.Sexp, at place) (int, api.Errno) {
	switch head {
	case "_":
		return r.decimal(rest)
	case "let":
		return r.let(rest, at)
	}
	o, ok := r.words[head]
	switch {
	case ok && o.numbers > 0:
		return 0, api.ErrReadForm
	case ok:
		return r.operation(o, [2]int{}, rest, at)
	case isName(head, r.words):
		return r.use(head, rest, at)
	}
	return 0, api.ErrReadWord
}

// decimal reads what stands behind the _ of (_ bvN w).
func (r *reading) decimal(rest []api.Sexp) (int, api.Errno) {
	if len(rest) != 2 || rest[0].List {
		return 0, api.ErrReadWord
	}
	number, ok := strings.CutPrefix(rest[0].Word, "bv")
	if !ok || !digits(number, 39) {
		return 0, api.ErrReadWord
	}
	w, ok := small(rest[1])
	if !ok {
		return 0, api.ErrReadWord
	}
	lo, hi := halves(number)
	v, e := bv.New(w, lo, hi)
	if e != api.OK {
		return 0, api.ErrTermWidth
	}
	return r.constant(v)
}

// numbered reads a list whose first thing is a list: ((_ op p) t ..) or ((_ op p q) t ..).
func (r *reading) numbered(head, rest []api.Sexp, at place) (int, api.Errno) {
	if len(head) < 3 || !is(head[0], "_") || head[1].List {
		return 0, api.ErrReadForm
	}
	o, ok := r.words[head[1].Word]
	if !ok || o.numbers != len(head)-2 {
		return 0, api.ErrReadForm
	}
	var numbers [2]int
	for i, x := range head[2:] {
		n, ok := small(x)
		if !ok {
			return 0, api.ErrReadWord
		}
		numbers[i] = n
	}
	return r.operation(o, numbers, rest, at)
}

func (r *reading) operation(o operator, numbers [2]int, rest []api.Sexp, at place) (int, api.Errno) {
	if !o.takes(len(rest)) {
		return 0, api.ErrReadForm
	}
	ids, e := r.terms(rest, at.deeper())
	if e != api.OK {
		return 0, e
	}
	return r.join(o, numbers, ids)
}

// let reads what stands behind the word.
func (r *reading) let(rest []api.Sexp, at place) (int, api.Errno) {
	if len(rest) != 2 || !rest[0].List || len(rest[0].Kids) == 0 {
		return 0, api.ErrReadForm
	}
	names, terms, ok := bindings(rest[0].Kids)
	if !ok {
		return 0, api.ErrReadForm
	}
	for _, n := range names {
		if !isName(n, r.words) {
			return 0, api.ErrReadWord
		}
	}
	ids := map[string]int{}
	for _, n := range names {
		ids[n] = 0
	}
	if len(ids) < len(names) {
		return 0, api.ErrReadTwice
	}
	at = at.deeper()
	values, e := r.terms(terms, at)
	if e != api.OK {
		return 0, e
	}
	for i, n := range names {
		ids[n] = values[i]
	}
	at.bound = &frame{ids: ids, outer: at.bound}
	return r.term(rest[1], at)
}

// bindings tells a let's names and terms, if all that it binds is written (n t); whether each n is a name comes later.
func bindings(l []api.Sexp) (names []string, terms []api.Sexp, ok bool) {
	for _, x := range l {
		if !x.List || len(x.Kids) != 2 || x.Kids[0].List {
			return nil, nil, false
		}
		names = append(names, x.Kids[0].Word)
		terms = append(terms, x.Kids[1])
	}
	return names, terms, true
}

// use reads a definition with its operands.
func (r *reading) use(name string, rest []api.Sexp, at place) (int, api.Errno) {
	k, ok := r.seen(name, at)
	if !ok || k.def == nil {
		return 0, api.ErrReadName
	}
	if len(rest) != len(k.def.params) {
		return 0, api.ErrReadForm
	}
	ids, e := r.terms(rest, at.deeper())
	if e != api.OK {
		return 0, e
	}
	for i, p := range k.def.params {
		if r.sortOf(ids[i]) != p.Sort {
			return 0, api.ErrReadSort
		}
	}
	return r.body(k, ids, at)
}

// body reads a definition's one: it sees the parameters and what was ahead of the definition, nothing of where it is used.
func (r *reading) body(k known, operands []int, at place) (int, api.Errno) {
	ids := map[string]int{}
	for i, p := range k.def.params {
		ids[p.Name] = operands[i]
	}
	id, e := r.term(k.def.body, place{bound: &frame{ids: ids}, sees: k.rank, depth: at.depth + 1})
	if e != api.OK {
		return 0, e
	}
	if r.sortOf(id) != k.def.sort {
		return 0, api.ErrReadSort
	}
	return id, api.OK
}
