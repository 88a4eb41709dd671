package read_test

import (
	"fmt"
	"maps"
	"math/big"
	"math/rand"
	"regexp"
	"slices"
	"strings"
	"testing"

	"plait/api"
	"plait/bv"
	"plait/read"
	"plait/sexp"
	"plait/term"
)

// The reference reads a text into a text without lets and definitions, as written tells a node.

type value struct {
	text string
	sort int
}

type entry struct {
	name   string
	params []api.Param // nil of a declared one
	sort   int
	body   *api.Sexp
}

type refusal struct{ e api.Errno }

type reference struct{ gone int }

func refuse(e api.Errno) { panic(refusal{e}) }

// readRef tells x's text and sort, or the first error.
func readRef(x api.Sexp, has []entry) (v value, e api.Errno) {
	defer func() {
		switch r := recover().(type) {
		case nil:
		case refusal:
			v, e = value{}, r.e
		default:
			panic(r)
		}
	}()
	return (&reference{}).term(x, nil, has, 1), api.OK
}

func (r *reference) term(x api.Sexp, env map[string]value, has []entry, depth int) value {
	switch {
	case depth > 200:
		refuse(api.ErrReadForm)
	case r.gone >= 65536:
		refuse(api.ErrReadMany)
	}
	r.gone++
	if x.List {
		return r.list(x.Kids, env, has, depth)
	}
	if v, e := bv.Parse(x.Word); e == api.OK {
		return value{bv.Text(v), v.W}
	}
	if !refName(x.Word) {
		refuse(api.ErrReadWord)
	}
	if v, ok := env[x.Word]; ok {
		return v
	}
	i := slices.IndexFunc(has, func(n entry) bool { return n.name == x.Word })
	if i < 0 {
		refuse(api.ErrReadName)
	}
	if has[i].body == nil {
		return value{x.Word, has[i].sort}
	}
	if len(has[i].params) > 0 {
		refuse(api.ErrReadForm)
	}
	return r.body(has, i, nil, depth)
}

func (r *reference) body(has []entry, i int, env map[string]value, depth int) value {
	v := r.term(*has[i].body, env, has[:i], depth+1)
	if v.sort != has[i].sort {
		refuse(api.ErrReadSort)
	}
	return v
}

var decimal = regexp.MustCompile(`\A\(_ bv(0|[1-9][0-9]{0,38}) (0|[1-9][0-9]{0,8})\)\z`)

var headForm = regexp.MustCompile(`\A\(_ (extract \S+|zero_extend|sign_extend|rotate_left|rotate_right|repeat) \S+\)\z`)

var headNumber = regexp.MustCompile(`\A(0|[1-9][0-9]{0,8})\z`)

func (r *reference) list(kids []api.Sexp, env map[string]value, has []entry, depth int) value {
	whole := sexp.Print(list(kids...))
	switch {
	case len(kids) == 0:
		refuse(api.ErrReadForm)
	case kids[0].List:
		return r.numbered(kids, env, has, depth)
	case kids[0].Word == "_":
		m := decimal.FindStringSubmatch(whole)
		if m == nil {
			refuse(api.ErrReadWord)
		}
		return constantOf(m[1], m[2])
	case kids[0].Word == "let":
		return r.let(kids[1:], env, has, depth)
	case slices.Contains(strings.Fields(operatorWords)[:37], kids[0].Word):
		return r.operator(kids[0].Word, nil, kids[1:], env, has, depth)
	case slices.Contains(strings.Fields(operatorWords), kids[0].Word):
		refuse(api.ErrReadForm)
	case !refName(kids[0].Word):
		refuse(api.ErrReadWord)
	}
	i := slices.IndexFunc(has, func(n entry) bool { return n.name == kids[0].Word && n.body != nil })
	if i < 0 {
		refuse(api.ErrReadName)
	}
	if len(has[i].params) != len(kids)-1 {
		refuse(api.ErrReadForm)
	}
	values := r.all(kids[1:], env, has, depth)
	inner := map[string]value{}
	for j, p := range has[i].params {
		if values[j].sort != p.Sort {
			refuse(api.ErrReadSort)
		}
		inner[p.Name] = values[j]
	}
	return r.body(has, i, inner, depth)
}

func constantOf(n, width string) value {
	number, _ := new(big.Int).SetString(n, 10)
	w, _ := new(big.Int).SetString(width, 10)
	if w.Sign() == 0 || w.Cmp(big.NewInt(128)) > 0 {
		refuse(api.ErrTermWidth)
	}
	size := int(w.Int64())
	number.Mod(number, new(big.Int).Lsh(big.NewInt(1), uint(size)))
	return value{fmt.Sprintf("#b%0*b", size, number), size}
}

func (r *reference) all(l []api.Sexp, env map[string]value, has []entry, depth int) []value {
	var values []value
	for _, x := range l {
		values = append(values, r.term(x, env, has, depth+1))
	}
	return values
}

func (r *reference) let(rest []api.Sexp, env map[string]value, has []entry, depth int) value {
	if len(rest) != 2 || !rest[0].List || len(rest[0].Kids) == 0 {
		refuse(api.ErrReadForm)
	}
	for _, b := range rest[0].Kids {
		if !b.List || len(b.Kids) != 2 || b.Kids[0].List {
			refuse(api.ErrReadForm)
		}
	}
	for _, b := range rest[0].Kids {
		if !refName(b.Kids[0].Word) {
			refuse(api.ErrReadWord)
		}
	}
	for i, b := range rest[0].Kids {
		for _, c := range rest[0].Kids[:i] {
			if b.Kids[0].Word == c.Kids[0].Word {
				refuse(api.ErrReadTwice)
			}
		}
	}
	inner := map[string]value{}
	maps.Copy(inner, env)
	for _, b := range rest[0].Kids {
		inner[b.Kids[0].Word] = r.term(b.Kids[1], env, has, depth+1)
	}
	return r.term(rest[1], inner, has, depth+1)
}

func (r *reference) numbered(kids []api.Sexp, env map[string]value, has []entry, depth int) value {
	var flat []string
	for i, x := range kids[0].Kids {
		if x.List && i < 2 {
			refuse(api.ErrReadForm)
		}
		flat = append(flat, strings.ReplaceAll(sexp.Print(x), " ", "~"))
	}
	if !headForm.MatchString("(" + strings.Join(flat, " ") + ")") {
		refuse(api.ErrReadForm)
	}
	var numbers []int
	for i, x := range flat[2:] {
		if kids[0].Kids[i+2].List || !headNumber.MatchString(x) {
			refuse(api.ErrReadWord)
		}
		var n int
		fmt.Sscan(x, &n)
		numbers = append(numbers, n)
	}
	return r.operator(flat[1], numbers, kids[1:], env, has, depth)
}

func (r *reference) operator(w string, numbers []int, rest []api.Sexp, env map[string]value, has []entry, depth int) value {
	least, greatest := 2, 2
	switch w {
	case "not", "bvnot", "bvneg", "extract", "zero_extend", "sign_extend", "rotate_left", "rotate_right", "repeat":
		least, greatest = 1, 1
	case "ite":
		least, greatest = 3, 3
	case "and", "or", "xor", "bvand", "bvor", "bvxor", "bvadd", "bvmul", "concat", "=>", "=", "distinct":
		greatest = 1 << 30
	}
	if len(rest) < least || len(rest) > greatest {
		refuse(api.ErrReadForm)
	}
	l := r.all(rest, env, has, depth)
	var parts []value
	switch w {
	case "=>":
		v := l[len(l)-1]
		for _, a := range slices.Backward(l[:len(l)-1]) {
			v = made(w, nil, a, v)
		}
		return v
	case "=":
		for i := range len(l) - 1 {
			parts = append(parts, made("=", nil, l[i], l[i+1]))
		}
		w, l = "and", parts
	case "distinct":
		for i := range l {
			for j := i + 1; j < len(l); j++ {
				parts = append(parts, made("not", nil, made("=", nil, l[i], l[j])))
			}
		}
		w, l = "and", parts
	}
	if greatest < 4 {
		return made(w, numbers, l...)
	}
	v := l[0]
	for _, a := range l[1:] {
		v = made(w, nil, v, a)
	}
	return v
}

func made(w string, numbers []int, l ...value) value {
	op := api.OpNot
	for opWord(op) != w {
		op++
	}
	var sorts []int
	words := []string{w}
	if numbers != nil {
		words = []string{strings.Trim(fmt.Sprint("(_ ", w, " ", numbers), "]") + ")"}
		words[0] = strings.Replace(words[0], "[", "", 1)
	}
	for _, v := range l {
		sorts = append(sorts, v.sort)
		words = append(words, v.text)
	}
	pq := append(slices.Clone(numbers), 0, 0)
	sort, e := term.Sort(op, pq[0], pq[1], sorts)
	if e != api.OK {
		refuse(e)
	}
	return value{"(" + strings.Join(words, " ") + ")", sort}
}

// writer makes texts by chance: of a sort, with names that are seen, then spoilt here and there.
type writer struct {
	*rand.Rand
	t     *testing.T
	names map[string]int // what may be used, by name, with its sort
	funcs []entry
}

func (z *writer) pick(l ...string) string { return l[z.Intn(len(l))] }

func (z *writer) sort() int { return []int{0, 0, 1, 4, 4, 4, 8}[z.Intn(7)] }

func (z *writer) name(sort int) (string, bool) {
	var l []string
	for n, s := range z.names {
		if s == sort {
			l = append(l, n)
		}
	}
	if len(l) == 0 {
		return "", false
	}
	slices.Sort(l)
	return z.pick(l...), true
}

func (z *writer) leaf(sort int) api.Sexp {
	if n, ok := z.name(sort); ok && z.Intn(4) > 0 {
		return word(n)
	}
	if sort == 0 {
		return word(z.pick("true", "false"))
	}
	if z.Intn(2) == 0 {
		return list(word("_"), word(fmt.Sprint("bv", z.Intn(300))), word(fmt.Sprint(sort)))
	}
	return word(fmt.Sprintf("#b%0*b", sort, z.Intn(1<<sort)))
}

func (z *writer) term(sort, fuel int) api.Sexp {
	if fuel <= 0 || z.Intn(6) == 0 {
		return z.leaf(sort)
	}
	fuel--
	switch z.Intn(8) {
	case 0:
		return z.let(sort, fuel)
	case 1, 2:
		if x, ok := z.use(sort, fuel); ok {
			return x
		}
	case 3:
		return list(word("ite"), z.term(0, fuel), z.term(sort, fuel), z.term(sort, fuel))
	}
	if sort == 0 {
		return z.truth(fuel)
	}
	return z.number(sort, fuel)
}

func (z *writer) several(sort, fuel int) []api.Sexp {
	n := 2
	if z.Intn(3) == 0 {
		n = 2 + z.Intn(3)
	}
	var l []api.Sexp
	for range n {
		l = append(l, z.term(sort, fuel))
	}
	return l
}

func (z *writer) truth(fuel int) api.Sexp {
	w := z.sort()
	switch z.Intn(4) {
	case 0:
		return list(word("not"), z.term(0, fuel))
	case 1:
		return list(append([]api.Sexp{word(z.pick("=", "distinct"))}, z.several(w, fuel-1)...)...)
	case 2:
		w = max(w, 1)
		return list(word(z.pick("bvult", "bvule", "bvugt", "bvuge", "bvslt", "bvsle", "bvsgt", "bvsge")), z.term(w, fuel), z.term(w, fuel))
	}
	return list(append([]api.Sexp{word(z.pick("and", "or", "xor", "=>"))}, z.several(0, fuel)...)...)
}

func (z *writer) number(sort, fuel int) api.Sexp {
	head := func(op string, numbers ...any) api.Sexp {
		l := []api.Sexp{word("_"), word(op)}
		for _, n := range numbers {
			l = append(l, word(fmt.Sprint(n)))
		}
		return list(l...)
	}
	switch {
	case sort == 1 && z.Intn(2) == 0:
		return list(word("bvcomp"), z.term(4, fuel), z.term(4, fuel))
	case sort == 8 && z.Intn(2) == 0:
		return list(word("concat"), z.term(4, fuel), z.term(4, fuel))
	case sort == 8 && z.Intn(2) == 0:
		return list(head("repeat", 2), z.term(4, fuel))
	case sort == 8 && z.Intn(2) == 0:
		return list(head(z.pick("zero_extend", "sign_extend"), 4), z.term(4, fuel))
	case sort < 8 && z.Intn(5) == 0:
		low := z.Intn(9 - sort)
		return list(head("extract", low+sort-1, low), z.term(8, fuel))
	case z.Intn(6) == 0:
		return list(head(z.pick("rotate_left", "rotate_right"), z.Intn(20)), z.term(sort, fuel))
	case z.Intn(5) == 0:
		return list(word(z.pick("bvnot", "bvneg")), z.term(sort, fuel))
	case z.Intn(2) == 0:
		return list(append([]api.Sexp{word(z.pick("bvand", "bvor", "bvxor", "bvadd", "bvmul"))}, z.several(sort, fuel)...)...)
	}
	op := z.pick("bvnand", "bvnor", "bvxnor", "bvsub", "bvudiv", "bvurem", "bvsdiv", "bvsrem", "bvsmod", "bvshl", "bvlshr", "bvashr")
	return list(word(op), z.term(sort, fuel), z.term(sort, fuel))
}

func (z *writer) let(sort, fuel int) api.Sexp {
	inner := maps.Clone(z.names)
	var l []api.Sexp
	for _, n := range []string{"a", "x", "f0", "|a b|", "p"} {
		if len(l) == 0 || z.Intn(3) == 0 {
			s := z.sort()
			l = append(l, list(word(n), z.term(s, fuel-1)))
			inner[n] = s
		}
	}
	outer := z.names
	z.names = inner
	body := z.term(sort, fuel)
	z.names = outer
	return list(word("let"), list(l...), body)
}

func (z *writer) use(sort, fuel int) (api.Sexp, bool) {
	var l []entry
	for _, f := range z.funcs {
		if f.sort == sort {
			l = append(l, f)
		}
	}
	if len(l) == 0 {
		return api.Sexp{}, false
	}
	f := l[z.Intn(len(l))]
	kids := []api.Sexp{word(f.name)}
	for _, p := range f.params {
		kids = append(kids, z.term(p.Sort, fuel-1))
	}
	return list(kids...), true
}

// spoilt changes a thing somewhere inside x; x itself stays.
func (z *writer) spoilt(x api.Sexp) api.Sexp {
	if x.List && len(x.Kids) > 0 && z.Intn(5) > 0 {
		kids := slices.Clone(x.Kids)
		i := z.Intn(len(kids))
		kids[i] = z.spoilt(kids[i])
		return list(kids...)
	}
	if !x.List || z.Intn(3) == 0 {
		return text(z.t, z.pick("5", "z", "x", "p", "a", "f0", "f1", "f2", "()", "(f0)", "(x)", "true", "#b1", "#b", "and", "extract", "let", "_", "0", "01", "(_ bv5 4)", "(_ bv5 200)", "(1)", "(_ repeat 2)", "|a b|", "((_ repeat 40) x)", "(let ((a x) (a y)) a)", "1000000000", "(and a a)", "late"))
	}
	kids := slices.Clone(x.Kids)
	if len(kids) == 0 {
		return word("x")
	}
	i := z.Intn(len(kids))
	switch z.Intn(4) {
	case 0:
		return list(slices.Delete(kids, i, i+1)...)
	case 1:
		return list(slices.Insert(kids, i, kids[i])...)
	case 2:
		return list(list(kids...))
	}
	return kids[i]
}

// grown tells a scope, by chance, and what the reference has of it.
func (z *writer) grown() (*read.Scope, *term.Graph, []entry) {
	g := term.New(api.MaxTerms)
	s := read.New(g)
	var has []entry
	z.names, z.funcs = map[string]int{}, nil
	declare := func(name string, sort int) {
		if e := s.Declare(name, sort); e != api.OK {
			z.t.Fatalf("P5.2: Declare(%s, %d): %v", name, sort, e)
		}
		has = append(has, entry{name: name, sort: sort})
		z.names[name] = sort
	}
	declare("x", 4)
	declare("|a b|", 8)
	declare("p", 0)
	for i := range 5 {
		f := entry{name: fmt.Sprint("f", i), sort: z.sort()}
		outer := maps.Clone(z.names)
		for _, n := range []string{"a", "x", "f1"} {
			if z.Intn(3) == 0 {
				f.params = append(f.params, api.Param{Name: n, Sort: z.sort()})
				z.names[n] = f.params[len(f.params)-1].Sort
			}
		}
		body := z.term(f.sort, 2)
		if z.Intn(8) == 0 {
			body = z.spoilt(body)
		}
		f.body = &body
		z.names = outer
		if e := s.Define(f.name, f.params, f.sort, body); e != api.OK {
			z.t.Fatalf("P5.3: Define(%v): %v", f, e)
		}
		has = append(has, f)
		z.funcs = append(z.funcs, f)
		if len(f.params) == 0 {
			z.names[f.name] = f.sort
		}
		declare(z.pick("u", "v", "w")+fmt.Sprint(i), z.sort())
	}
	declare("late", 4)
	return s, g, has
}

func TestAgainstTheReference(t *testing.T) {
	z := &writer{Rand: rand.New(rand.NewSource(5)), t: t}
	told := map[api.Errno]int{}
	for range 250 {
		s, g, has := z.grown()
		for range 60 {
			x := z.term(z.sort(), 4)
			for z.Intn(2) == 0 {
				x = z.spoilt(x)
			}
			want, e := readRef(x, has)
			if len(want.text) > 20000 {
				continue
			}
			id, f := s.Term(x)
			if f == api.ErrTermMany {
				break
			}
			if n, _ := g.Node(id); f != e || e == api.OK && (written(g, id) != want.text || n.Sort != want.sort) || e != api.OK && id != 0 {
				t.Fatalf("P5.4: %s among %v: %s, %v; should be %s, %v", sexp.Print(x), has, written(g, id), f, want.text, e)
			}
			if again, f := s.Term(x); again != id || f != e {
				t.Fatalf("P5.6: %s: %d, then %d, %v", sexp.Print(x), id, again, f)
			}
			told[e]++
		}
	}
	for _, e := range []api.Errno{api.OK, api.ErrReadWord, api.ErrReadName, api.ErrReadTwice, api.ErrReadSort, api.ErrReadForm, api.ErrTermSort, api.ErrTermWidth} {
		if told[e] < 20 {
			t.Errorf("the test met %v only %d times: %v", e, told[e], told)
		}
	}
}
