package sexp

// cursor stands at a byte of a text, or at its end.
type cursor struct {
	text string
	at   int
}

func (c *cursor) ended() bool { return c.at >= len(c.text) }

func (c *cursor) here() byte { return c.text[c.at] }

func (c *cursor) step() { c.at++ }
