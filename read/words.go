package read

import (
	"math/bits"
	"strconv"
	"strings"

	"plait/api"
	"plait/sexp"
)

// How operands come together.
const (
	asMany     = iota // as many as the operator has
	fromLeft          // two or more
	fromRight         // two or more
	neighbours        // two or more, each beside the next one
	eachTwo           // two or more, no two of them alike
)

// operator: what a word stands for.
type operator struct {
	op      int
	joins   int
	numbers int // how many stand in its head
}

// operators has all of them by their words.
func operators() map[string]operator {
	return map[string]operator{
		"not":          {op: api.OpNot},
		"and":          {op: api.OpAnd, joins: fromLeft},
		"or":           {op: api.OpOr, joins: fromLeft},
		"xor":          {op: api.OpXor, joins: fromLeft},
		"=>":           {op: api.OpImplies, joins: fromRight},
		"=":            {op: api.OpEq, joins: neighbours},
		"distinct":     {op: api.OpEq, joins: eachTwo},
		"ite":          {op: api.OpIte},
		"bvnot":        {op: api.OpBvNot},
		"bvneg":        {op: api.OpBvNeg},
		"bvand":        {op: api.OpBvAnd, joins: fromLeft},
		"bvor":         {op: api.OpBvOr, joins: fromLeft},
		"bvxor":        {op: api.OpBvXor, joins: fromLeft},
		"bvnand":       {op: api.OpBvNand},
		"bvnor":        {op: api.OpBvNor},
		"bvxnor":       {op: api.OpBvXnor},
		"bvadd":        {op: api.OpBvAdd, joins: fromLeft},
		"bvsub":        {op: api.OpBvSub},
		"bvmul":        {op: api.OpBvMul, joins: fromLeft},
		"bvudiv":       {op: api.OpBvUdiv},
		"bvurem":       {op: api.OpBvUrem},
		"bvsdiv":       {op: api.OpBvSdiv},
		"bvsrem":       {op: api.OpBvSrem},
		"bvsmod":       {op: api.OpBvSmod},
		"bvshl":        {op: api.OpBvShl},
		"bvlshr":       {op: api.OpBvLshr},
		"bvashr":       {op: api.OpBvAshr},
		"bvult":        {op: api.OpUlt},
		"bvule":        {op: api.OpUle},
		"bvugt":        {op: api.OpUgt},
		"bvuge":        {op: api.OpUge},
		"bvslt":        {op: api.OpSlt},
		"bvsle":        {op: api.OpSle},
		"bvsgt":        {op: api.OpSgt},
		"bvsge":        {op: api.OpSge},
		"bvcomp":       {op: api.OpComp},
		"concat":       {op: api.OpConcat, joins: fromLeft},
		"extract":      {op: api.OpExtract, numbers: 2},
		"zero_extend":  {op: api.OpZext, numbers: 1},
		"sign_extend":  {op: api.OpSext, numbers: 1},
		"rotate_left":  {op: api.OpRotl, numbers: 1},
		"rotate_right": {op: api.OpRotr, numbers: 1},
		"repeat":       {op: api.OpRepeat, numbers: 1},
	}
}

// Sort reads a sort.
func Sort(x api.Sexp) (int, api.Errno) {
	if is(x, "Bool") {
		return 0, api.OK
	}
	if !x.List || len(x.Kids) != 3 || !is(x.Kids[0], "_") || !is(x.Kids[1], "BitVec") {
		return 0, api.ErrReadSort
	}
	w, ok := small(x.Kids[2])
	if !ok || w < 1 || w > api.MaxWidth {
		return 0, api.ErrReadSort
	}
	return w, api.OK
}

// Name tells whether a word is a name.
func Name(w string) bool { return isName(w, operators()) }

// isName takes the operators that the caller has at hand: making them for each word of a text would be slow.
func isName(w string, words map[string]operator) bool {
	if !sexp.Word(w) {
		return false
	}
	// A bar's word begins with a bar: none of what follows is true of it.
	if w[0] >= '0' && w[0] <= '9' || w[0] == '#' || w[0] == ':' {
		return false
	}
	switch w {
	case "true", "false", "let", "_":
		return false
	}
	_, ok := words[w]
	return !ok
}

// is tells whether x is that word; a list is none, whatever its Word.
func is(x api.Sexp, word string) bool { return !x.List && x.Word == word }

// small tells the number that a word of at most 9 digits writes.
func small(x api.Sexp) (int, bool) {
	if x.List || !digits(x.Word, 9) {
		return 0, false
	}
	n, err := strconv.Atoi(x.Word)
	return n, err == nil
}

// digits tells whether a number of at most so many digits is written there, in its one spelling.
func digits(w string, most int) bool {
	if w == "" || len(w) > most || w[0] == '0' && w != "0" {
		return false
	}
	return strings.Trim(w, "0123456789") == ""
}

// halves tells the number that the digits write, modulo 2^128.
func halves(digits string) (lo, hi uint64) {
	for i := range len(digits) {
		over, low := bits.Mul64(lo, 10)
		sum, carry := bits.Add64(low, uint64(digits[i]-'0'), 0)
		lo, hi = sum, hi*10+over+carry
	}
	return lo, hi
}
