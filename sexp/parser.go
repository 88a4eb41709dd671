package sexp

import "plait/api"

// parser is a scanner with the lists that are open where it stands: the first is the text itself, the last the innermost.
type parser struct {
	scanner
	open []openList
}

// openList is a list whose closing bracket is still ahead: the place of its opening one, and its kids so far.
type openList struct {
	place int
	kids  []api.Sexp
}

func newParser(text string) parser {
	return parser{scanner: newScanner(text), open: []openList{{}}}
}

// all reads the whole text.
func (p *parser) all() ([]api.Sexp, error) {
	for p.skip(); !p.ended(); p.skip() {
		if e := p.one(); e != api.OK {
			return nil, placed(p.at, e)
		}
	}
	if p.depth() > 0 {
		return nil, placed(p.innermost().place, api.ErrSexpOpen)
	}
	return p.innermost().kids, nil
}

// one reads a bracket or a word; at an error it stays, for the place of the error.
func (p *parser) one() api.Errno {
	switch p.here() {
	case '(':
		return p.openBracket()
	case ')':
		return p.closeBracket()
	}
	w := p.word()
	if w == "" {
		return api.ErrSexpWord
	}
	p.add(api.Sexp{Word: w})
	return api.OK
}

func (p *parser) openBracket() api.Errno {
	if p.depth() == api.MaxDepth {
		return api.ErrSexpDeep
	}
	p.open = append(p.open, openList{place: p.at})
	p.step()
	return api.OK
}

func (p *parser) closeBracket() api.Errno {
	if p.depth() == 0 {
		return api.ErrSexpClose
	}
	closed := api.Sexp{List: true, Kids: p.innermost().kids}
	p.open = p.open[:p.depth()]
	p.add(closed)
	p.step()
	return api.OK
}

// depth is how many brackets are open.
func (p *parser) depth() int { return len(p.open) - 1 }

func (p *parser) innermost() *openList { return &p.open[p.depth()] }

func (p *parser) add(s api.Sexp) {
	l := p.innermost()
	l.kids = append(l.kids, s)
}

func placed(at int, e api.Errno) error { return &api.PlaceError{At: at, Err: e} }
