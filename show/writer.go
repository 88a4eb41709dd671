package show

import (
	"strconv"
	"strings"

	"plait/api"
	"plait/bv"
	"plait/term"
)

// writer: of one text.
type writer struct {
	graph *term.Graph
	text  strings.Builder
	long  bool // it would be above MaxShow: nothing is written any more
}

func (w *writer) put(parts ...string) {
	for _, p := range parts {
		if w.long || w.text.Len()+len(p) > api.MaxShow {
			w.long = true
			return
		}
		w.text.WriteString(p)
	}
}

// term stops where the text is too long: a term of few nodes can be a text without bound.
func (w *writer) term(id int) {
	if w.long {
		return
	}
	n, _ := w.graph.Node(id)
	switch n.Op {
	case api.OpConst:
		w.put(bv.Text(n.V))
		return
	case api.OpVar:
		w.put(quoted(n.Name))
		return
	}
	w.put("(")
	w.head(n)
	operands := [...]int{n.A, n.B, n.C}
	for _, a := range operands[:term.Arity(n.Op)] {
		w.put(" ")
		w.term(a)
	}
	w.put(")")
}

func (w *writer) head(n api.Node) {
	switch n.Op {
	case api.OpExtract:
		w.put("(_ ", words[n.Op], " ", strconv.Itoa(n.P), " ", strconv.Itoa(n.Q), ")")
	case api.OpZext, api.OpSext, api.OpRotl, api.OpRotr, api.OpRepeat:
		w.put("(_ ", words[n.Op], " ", strconv.Itoa(n.P), ")")
	default:
		w.put(words[n.Op])
	}
}
