package show

import (
	"strconv"
	"strings"

	"plait/api"
	"plait/sexp"
)

// words: by operators, as read takes them.
var words = [...]string{
	api.OpNot: "not", api.OpAnd: "and", api.OpOr: "or", api.OpXor: "xor", api.OpImplies: "=>",
	api.OpEq: "=", api.OpIte: "ite",
	api.OpBvNot: "bvnot", api.OpBvNeg: "bvneg", api.OpBvAnd: "bvand", api.OpBvOr: "bvor", api.OpBvXor: "bvxor",
	api.OpBvNand: "bvnand", api.OpBvNor: "bvnor", api.OpBvXnor: "bvxnor",
	api.OpBvAdd: "bvadd", api.OpBvSub: "bvsub", api.OpBvMul: "bvmul", api.OpBvUdiv: "bvudiv", api.OpBvUrem: "bvurem",
	api.OpBvSdiv: "bvsdiv", api.OpBvSrem: "bvsrem", api.OpBvSmod: "bvsmod",
	api.OpBvShl: "bvshl", api.OpBvLshr: "bvlshr", api.OpBvAshr: "bvashr",
	api.OpUlt: "bvult", api.OpUle: "bvule", api.OpUgt: "bvugt", api.OpUge: "bvuge",
	api.OpSlt: "bvslt", api.OpSle: "bvsle", api.OpSgt: "bvsgt", api.OpSge: "bvsge",
	api.OpComp: "bvcomp", api.OpConcat: "concat", api.OpExtract: "extract",
	api.OpZext: "zero_extend", api.OpSext: "sign_extend", api.OpRotl: "rotate_left", api.OpRotr: "rotate_right", api.OpRepeat: "repeat",
}

// listed joins words to the text of a list.
func listed(parts ...string) string { return "(" + strings.Join(parts, " ") + ")" }

// letName is the k-th word that a let may bind.
func letName(k int) string { return "?" + strconv.Itoa(k) }

// quoted puts a name that read doesn't take in bars, where bars can hold it.
func quoted(name string) string {
	if isName(name) || strings.ContainsAny(name, "|\n") {
		return name
	}
	return "|" + name + "|"
}

// isName tells whether read takes it for one: that layer isn't below this one.
func isName(w string) bool {
	if !sexp.Word(w) {
		return false
	}
	// A bar's word begins with a bar: none of what follows is true of it.
	if w[0] >= '0' && w[0] <= '9' || w[0] == '#' || w[0] == ':' {
		return false
	}
	switch w {
	case "true", "false", "let", "_", "distinct":
		return false
	}
	for _, op := range words {
		if w == op {
			return false
		}
	}
	return true
}
