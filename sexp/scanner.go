package sexp

import "strings"

// wordMarks are the characters of a word that are no letters and no digits.
const wordMarks = "~!@$%^&*_-+=<>.?/#:',"

// scanner is a cursor that knows blanks, remarks and words.
type scanner struct{ cursor }

func newScanner(text string) scanner { return scanner{cursor{text: text}} }

// skip goes past blanks and remarks.
func (s *scanner) skip() {
	for !s.ended() {
		switch {
		case isBlank(s.here()):
			s.step()
		case s.here() == ';':
			s.skipLine()
		default:
			return
		}
	}
}

// skipLine stops at the line feed: it is a blank like any other.
func (s *scanner) skipLine() {
	for !s.ended() && s.here() != '\n' {
		s.step()
	}
}

// word takes the word that begins here, or tells "" and stays.
func (s *scanner) word() string {
	from := s.at
	s.at += s.wordSize()
	// A copy, so that what is told doesn't hold on to the text.
	return strings.Clone(s.text[from:s.at])
}

// wordSize is how many bytes the word that begins here has; 0, if none does.
func (s *scanner) wordSize() int {
	if !s.ended() && s.here() == '|' {
		return s.barWordSize()
	}
	ahead := s.cursor
	for !ahead.ended() && isPlain(ahead.here()) {
		ahead.step()
	}
	return ahead.at - s.at
}

// barWordSize is wordSize where a bar stands: the second one must be on its line.
func (s *scanner) barWordSize() int {
	ahead := s.cursor
	ahead.step()
	for !ahead.ended() && ahead.here() != '|' {
		if ahead.here() == '\n' {
			return 0
		}
		ahead.step()
	}
	if ahead.ended() {
		return 0
	}
	ahead.step()
	return ahead.at - s.at
}

func isBlank(b byte) bool { return b == ' ' || b == '\t' || b == '\n' || b == '\r' }

// isPlain tells whether the byte may stand in a word without bars.
func isPlain(b byte) bool {
	switch {
	case 'a' <= b && b <= 'z', 'A' <= b && b <= 'Z', '0' <= b && b <= '9':
		return true
	}
	return strings.IndexByte(wordMarks, b) >= 0
}
