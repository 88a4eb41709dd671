package show

import (
	"strconv"
	"strings"

	"plait/api"
	"plait/bv"
	"plait/term"
)

// writer: of one text.
type writer struct {
	graph *term.Graph
	named [api.MaxTerms + 1]int // by a node's number, that of the word that stands for it; 0: it is written out
	text  strings.Builder
	long  bool // it would be above MaxShow: nothing is written any more
}

func (w *writer) answer() (string, api.Errno) {
	if w.long {
		return "", api.ErrShowLong
	}
	return w.text.String(), api.OK
}

func (w *writer) put(parts ...string) {
	for _, p := range parts {
		if w.long || w.text.Len()+len(p) > api.MaxShow {
			w.long = true
			return
		}
		w.text.WriteString(p)
	}
}

// term stops where the text is too long: a term of few nodes can be a text without bound.
func (w *writer) term(id int) {
	if w.long {
		return
	}
	if k := w.named[id]; k != 0 {
		w.put(letName(k))
		return
	}
	n, _ := w.graph.Node(id)
	switch n.Op {
	case api.OpConst:
		w.put(bv.Text(n.V))
		return
	case api.OpVar:
		w.put(quoted(n.Name))
		return
	}
	w.put("(", head(n))
	operands := [...]int{n.A, n.B, n.C}
	for _, a := range operands[:term.Arity(n.Op)] {
		w.put(" ")
		w.term(a)
	}
	w.put(")")
}

func head(n api.Node) string {
	switch n.Op {
	case api.OpExtract:
		return listed("_", words[n.Op], strconv.Itoa(n.P), strconv.Itoa(n.Q))
	case api.OpZext, api.OpSext, api.OpRotl, api.OpRotr, api.OpRepeat:
		return listed("_", words[n.Op], strconv.Itoa(n.P))
	}
	return words[n.Op]
}
