package sexp_test

import (
	"errors"
	"math/rand"
	"reflect"
	"regexp"
	"strings"
	"testing"
	"unsafe"

	"plait/api"
	"plait/sexp"
)

func word(w string) api.Sexp { return api.Sexp{Word: w} }

func list(kids ...api.Sexp) api.Sexp { return api.Sexp{List: true, Kids: kids} }

// same tells whether two things are the same, a nil list and an empty one held for the same.
func same(a, b api.Sexp) bool {
	return a.Word == b.Word && a.List == b.List && sameLists(a.Kids, b.Kids)
}

func sameLists(a, b []api.Sexp) bool {
	if len(a) != len(b) {
		return false
	}
	for i := range a {
		if !same(a[i], b[i]) {
			return false
		}
	}
	return true
}

// The reference of these tests: tokens by regular expressions, lists by recursion, written from the chapter's words.

var (
	wordForm   = regexp.MustCompile(`^(?s:[a-zA-Z0-9~!@$%^&*_\-+=<>.?/#:',]+|\|[^|\n]*\|)`)
	remarkForm = regexp.MustCompile(`^(?s:;[^\n]*)`)
	blankForm  = regexp.MustCompile(`^[ \t\n\r]`)
)

type reference struct {
	text  string
	at    int
	opens []int
	fault *api.PlaceError
}

func (r *reference) fail(at int, e api.Errno) { r.fault = &api.PlaceError{At: at, Err: e} }

func (r *reference) things() []api.Sexp {
	var l []api.Sexp
	for r.fault == nil && r.at < len(r.text) {
		rest := r.text[r.at:]
		if form := remarkForm.FindString(rest) + blankForm.FindString(rest); form != "" {
			r.at += len(form)
		} else if form := wordForm.FindString(rest); form != "" {
			l = append(l, word(form))
			r.at += len(form)
		} else if rest[0] == '(' {
			l = append(l, r.bracketed())
		} else if rest[0] == ')' {
			if len(r.opens) == 0 {
				r.fail(r.at, api.ErrSexpClose)
			}
			return l
		} else {
			r.fail(r.at, api.ErrSexpWord)
		}
	}
	return l
}

func (r *reference) bracketed() api.Sexp {
	if len(r.opens) == api.MaxDepth {
		r.fail(r.at, api.ErrSexpDeep)
		return api.Sexp{}
	}
	r.opens = append(r.opens, r.at)
	r.at++
	l := list(r.things()...)
	if r.fault == nil && r.at == len(r.text) {
		r.fail(r.opens[len(r.opens)-1], api.ErrSexpOpen)
	}
	r.opens = r.opens[:len(r.opens)-1]
	r.at++
	return l
}

func parseByReference(text string) ([]api.Sexp, *api.PlaceError) {
	r := &reference{text: text}
	l := r.things()
	if r.fault != nil {
		return nil, r.fault
	}
	return l, nil
}

// checkFault tells whether err is just that place and number, and no other number of api's.
func checkFault(t *testing.T, text string, l []api.Sexp, err error, want api.PlaceError) {
	t.Helper()
	f, ok := err.(*api.PlaceError)
	if !ok || *f != want {
		t.Fatalf("P2.1: Parse(%.40q): %v, should be %v", text, err, &want)
	}
	if len(l) != 0 {
		t.Fatalf("P2.1: Parse(%.40q): things beside the error: %v", text, l)
	}
	for n := range api.Errno(260) {
		if errors.Is(err, n) != (n == want.Err) {
			t.Fatalf("P2.1: Parse(%.40q): errors.Is of %d", text, n)
		}
	}
}

func checkParse(t *testing.T, text string) {
	t.Helper()
	want, fault := parseByReference(text)
	got, err := sexp.Parse(text)
	if fault != nil {
		checkFault(t, text, got, err, *fault)
		return
	}
	if err != nil || !sameLists(got, want) {
		t.Fatalf("P2.1: Parse(%.40q): %v, %v, should be %v", text, got, err, want)
	}
	checkAgain(t, got)
}

// checkAgain holds P2.3 on what Parse told.
func checkAgain(t *testing.T, told []api.Sexp) {
	t.Helper()
	var texts []string
	for _, s := range told {
		checkForm(t, s)
		texts = append(texts, sexp.Print(s))
	}
	text := strings.Join(texts, " ")
	if len(text) > api.MaxText {
		return
	}
	again, err := sexp.Parse(text)
	if err != nil || !sameLists(again, told) {
		t.Fatalf("P2.3: %.60q again: %v, %v", text, again, err)
	}
}

func checkForm(t *testing.T, s api.Sexp) {
	t.Helper()
	if s.List && s.Word != "" || !s.List && (len(s.Kids) != 0 || !sexp.Word(s.Word)) {
		t.Fatalf("P2.3: Parse told %+v", s)
	}
	for _, kid := range s.Kids {
		checkForm(t, kid)
	}
}

func TestParseExamples(t *testing.T) {
	for _, x := range []struct {
		text string
		want []api.Sexp
	}{
		{"", nil},
		{" \t\r\n", nil},
		{"; only a remark", nil},
		{";", nil},
		{"()", []api.Sexp{list()}},
		{"(a (b) #x0f) ; c", []api.Sexp{list(word("a"), list(word("b")), word("#x0f"))}},
		{"|x y|", []api.Sexp{word("|x y|")}},
		{"||", []api.Sexp{word("||")}},
		{"a|b|", []api.Sexp{word("a"), word("|b|")}},
		{"|a|b", []api.Sexp{word("|a|"), word("b")}},
		{"|a||b|||", []api.Sexp{word("|a|"), word("|b|"), word("||")}},
		{"a(b)c", []api.Sexp{word("a"), list(word("b")), word("c")}},
		{"a;b\nc", []api.Sexp{word("a"), word("c")}},
		{"a;b\rc", []api.Sexp{word("a")}},
		{";|\na;(\n", []api.Sexp{word("a")}},
		{"|;|a", []api.Sexp{word("|;|"), word("a")}},
		{"|a\r\t\x00\xff\u00e9(]\"|", []api.Sexp{word("|a\r\t\x00\xff\u00e9(]\"|")}},
		{"(())()", []api.Sexp{list(list()), list()}},
		{"0 00 -1 'a', :b", []api.Sexp{word("0"), word("00"), word("-1"), word("'a',"), word(":b")}},
	} {
		if got, err := sexp.Parse(x.text); err != nil || !sameLists(got, x.want) {
			t.Errorf("P2.1: Parse(%q): %v, %v", x.text, got, err)
		}
		checkParse(t, x.text)
	}
}

func TestParseFaults(t *testing.T) {
	for _, x := range []struct {
		text string
		at   int
		want api.Errno
	}{
		{"(", 0, api.ErrSexpOpen}, {"((", 1, api.ErrSexpOpen}, {"(()", 0, api.ErrSexpOpen}, {"() (a (b) (c (d)) ", 3, api.ErrSexpOpen}, {"(a ;)", 0, api.ErrSexpOpen}, {"(a |)|", 0, api.ErrSexpOpen},
		{")", 0, api.ErrSexpClose}, {"a)", 1, api.ErrSexpClose}, {"(a))(", 3, api.ErrSexpClose}, {") ]", 0, api.ErrSexpClose},
		{"a]", 1, api.ErrSexpWord}, {"(]", 1, api.ErrSexpWord}, {"] )", 0, api.ErrSexpWord}, {"{", 0, api.ErrSexpWord}, {"\"a\"", 0, api.ErrSexpWord}, {"a`", 1, api.ErrSexpWord}, {"a\\", 1, api.ErrSexpWord}, {"a\v", 1, api.ErrSexpWord}, {"\f", 0, api.ErrSexpWord},
		{"|", 0, api.ErrSexpWord}, {"(a|", 2, api.ErrSexpWord}, {"|a|b|", 4, api.ErrSexpWord}, {"|a\n|", 0, api.ErrSexpWord}, {"||\n|b", 3, api.ErrSexpWord}, {"|a;|\n|", 5, api.ErrSexpWord}, {"|\xc3\n", 0, api.ErrSexpWord},
		{"a \xc3\xa9", 2, api.ErrSexpWord}, {"a\xff", 1, api.ErrSexpWord}, {"\x00", 0, api.ErrSexpWord}, {"\x7f", 0, api.ErrSexpWord},
		{"; a\n]", 4, api.ErrSexpWord}, {"( |a|]", 5, api.ErrSexpWord},
	} {
		l, err := sexp.Parse(x.text)
		checkFault(t, x.text, l, err, api.PlaceError{At: x.at, Err: x.want})
		checkParse(t, x.text)
	}
}

func TestParseEveryByte(t *testing.T) {
	for b := range 256 {
		for _, text := range []string{string([]byte{byte(b)}), "a" + string([]byte{byte(b)}) + "c", "(a" + string([]byte{byte(b)}) + "c)", "|" + string([]byte{byte(b)}) + "|", ";" + string([]byte{byte(b)}) + "]"} {
			checkParse(t, text)
		}
	}
}

func TestParseAllShortTexts(t *testing.T) {
	var goOn func(text string, more int)
	goOn = func(text string, more int) {
		checkParse(t, text)
		if more == 0 {
			return
		}
		for _, c := range []string{"a", "(", ")", "|", ";", "\n", " ", "]"} {
			goOn(text+c, more-1)
		}
	}
	goOn("", 5)
}

func TestParseLongerTexts(t *testing.T) {
	source := rand.New(rand.NewSource(2))
	parts := []string{"(", "(", "(", ")", ")", ")", "a", "bc", "#x0f", "|", "|d e|", ";", "\n", " ", "\t", "\r", "]", "\xff"}
	for range 20000 {
		var text strings.Builder
		usable := len(parts) - 2*source.Intn(2)
		for range source.Intn(40) {
			text.WriteString(parts[source.Intn(usable)])
		}
		checkParse(t, text.String())
	}
}

func TestParseDepth(t *testing.T) {
	open, closed := strings.Repeat("(", api.MaxDepth), strings.Repeat(")", api.MaxDepth)
	for _, text := range []string{
		open + closed, open + "a" + closed, open + closed + open + closed, open + ")()" + closed[1:], open + "|(|;(\n" + closed,
		open, open + "(", open + "]", open + "(]", open + "()" + closed, open + ")((", open + ")()(", "a " + open + "(" + closed + ")", open + closed + open + "(", open + closed + ")",
	} {
		checkParse(t, text)
	}
	l, err := sexp.Parse(open + closed)
	if err != nil || len(l) != 1 || sexp.Size(l[0]) != api.MaxDepth {
		t.Errorf("P2.1: %d brackets in brackets: %v", api.MaxDepth, err)
	}
	l, err = sexp.Parse(open + "(")
	checkFault(t, open+"(", l, err, api.PlaceError{At: api.MaxDepth, Err: api.ErrSexpDeep})
}

func TestParseLength(t *testing.T) {
	for _, c := range []string{"a", " ", ";", "]", ")", "(", "|", "()", "(a b) "} {
		text := strings.Repeat(c, api.MaxText)
		checkParse(t, text[:api.MaxText])
		checkParse(t, text[:api.MaxText-1])
		l, err := sexp.Parse((text + c)[:api.MaxText+1])
		checkFault(t, "long "+c, l, err, api.PlaceError{At: 0, Err: api.ErrSexpLong})
	}
	one, err := sexp.Parse(strings.Repeat("a", api.MaxText))
	if err != nil || len(one) != 1 || len(one[0].Word) != api.MaxText {
		t.Errorf("P2.1: a word of MaxText bytes: %v", err)
	}
}

// room is where a list's memory begins and ends, its spare room counted.
func room(l []api.Sexp) (from, to uintptr) {
	from = uintptr(unsafe.Pointer(unsafe.SliceData(l)))
	return from, from + uintptr(cap(l))*unsafe.Sizeof(api.Sexp{})
}

func TestParseNewMemory(t *testing.T) {
	text := "(a (b |c|) () ((d) e)) (f g h) i j (k)"
	told, err := sexp.Parse(text)
	if err != nil {
		t.Fatalf("P2.1: %v", err)
	}
	var lists [][]api.Sexp
	var gather func(l []api.Sexp)
	gather = func(l []api.Sexp) {
		if cap(l) > 0 {
			lists = append(lists, l)
		}
		for _, s := range l {
			at := uintptr(unsafe.Pointer(unsafe.StringData(s.Word)))
			begin := uintptr(unsafe.Pointer(unsafe.StringData(text)))
			if s.Word != "" && begin <= at && at < begin+uintptr(len(text)) {
				t.Errorf("P2.1: the word %s is a piece of the text", s.Word)
			}
			gather(s.Kids)
		}
	}
	gather(told)
	for i, a := range lists {
		for _, b := range lists[:i] {
			aFrom, aTo := room(a)
			bFrom, bTo := room(b)
			if aFrom < bTo && bFrom < aTo {
				t.Errorf("P2.1: two lists share memory: %v, %v", a, b)
			}
		}
	}
	told[0].Kids[0].Word = "z"
	if again, _ := sexp.Parse(text); again[0].Kids[0].Word != "a" {
		t.Errorf("P2.1: what was told is kept")
	}
}

func TestPrint(t *testing.T) {
	for _, x := range []struct {
		s    api.Sexp
		want string
	}{
		{api.Sexp{}, ""},
		{word("a"), "a"},
		{word("|x y|"), "|x y|"},
		{word(") ;\n"), ") ;\n"},
		{api.Sexp{Word: "a", Kids: []api.Sexp{word("b")}}, "a"},
		{api.Sexp{Kids: []api.Sexp{word("b")}}, ""},
		{list(), "()"},
		{api.Sexp{List: true, Word: "a"}, "()"},
		{api.Sexp{List: true, Word: "a", Kids: []api.Sexp{word("b")}}, "(b)"},
		{api.Sexp{List: true, Kids: []api.Sexp{}}, "()"},
		{list(word("a")), "(a)"},
		{list(word("a"), word("b"), word("c")), "(a b c)"},
		{list(list(), list(), word("a"), list(word("b"), list())), "(() () a (b ()))"},
		{list(word(""), word("")), "( )"},
		{list(api.Sexp{Word: "a", Kids: []api.Sexp{word("b")}}, word("c")), "(a c)"},
	} {
		if got := sexp.Print(x.s); got != x.want {
			t.Errorf("P2.2: Print(%+v) = %q, should be %q", x.s, got, x.want)
		}
	}
}

func TestWord(t *testing.T) {
	for b := range 256 {
		c := string([]byte{byte(b)})
		plain := strings.Contains("abcdefghijklmnopqrstuvwxyzABCDEFGHIJKLMNOPQRSTUVWXYZ0123456789~!@$%^&*_-+=<>.?/#:',", c)
		barred := c != "|" && c != "\n"
		for _, x := range []struct {
			w    string
			want bool
		}{{c, plain}, {"a" + c, plain}, {c + "a", plain}, {"a" + c + "b", plain}, {"|" + c + "|", barred}, {"|a" + c + "b|", barred}, {"|a|" + c, false}, {c + "|a|", false}, {"|a" + c, c == "|"}} {
			if sexp.Word(x.w) != x.want {
				t.Errorf("P2.2: Word(%q) should be %v", x.w, x.want)
			}
		}
	}
	long := strings.Repeat("a", 3*api.MaxText)
	for _, x := range []struct {
		w    string
		want bool
	}{{"", false}, {"||", true}, {"|||", false}, {"||||", false}, {"|", false}, {" a", false}, {"a ", false}, {"a;", false}, {"\u00e9", false}, {"|\u00e9|", true}, {long, true}, {"|" + long + "|", true}, {long + "]", false}} {
		if sexp.Word(x.w) != x.want {
			t.Errorf("P2.2: Word(%.20q) should be %v", x.w, x.want)
		}
	}
}

func TestSize(t *testing.T) {
	for _, x := range []struct {
		s    api.Sexp
		want int
	}{
		{api.Sexp{}, 1},
		{word("a"), 1},
		{api.Sexp{Word: "a", Kids: []api.Sexp{word("b"), list(word("c"))}}, 1},
		{list(), 1},
		{api.Sexp{List: true, Word: "a"}, 1},
		{list(word("a")), 2},
		{list(word("a"), word(""), list()), 4},
		{list(list(list()), list(word("a"), api.Sexp{Word: "b", Kids: []api.Sexp{word("c")}})), 6},
	} {
		if got := sexp.Size(x.s); got != x.want {
			t.Errorf("P2.2: Size(%+v) = %d, should be %d", x.s, got, x.want)
		}
	}
}

// As deep as the document lets anything be nested: far beyond what Parse takes.
func TestPrintAndSizeVeryDeep(t *testing.T) {
	const deep = 1 << 16
	s := list()
	for range deep - 1 {
		s = list(s)
	}
	if got := sexp.Print(s); got != strings.Repeat("(", deep)+strings.Repeat(")", deep) {
		t.Errorf("P2.2: Print of %d lists in one another: %d bytes", deep, len(got))
	}
	if got := sexp.Size(s); got != deep {
		t.Errorf("P2.2: Size of %d lists in one another: %d", deep, got)
	}
}

func TestArgumentsStay(t *testing.T) {
	spare := make([]api.Sexp, 2, 4)
	spare[0], spare[1] = word("a"), list(word("b"))
	whole := spare[:4]
	before := append([]api.Sexp{}, whole...)
	s := list(spare...)
	sexp.Print(s)
	sexp.Size(s)
	if !reflect.DeepEqual(whole, before) {
		t.Errorf("P2.2: an argument was changed: %v", whole)
	}
}

func randomThing(source *rand.Rand, deep int) api.Sexp {
	words := []string{"a", "bc", "#b01", "||", "|x ;(y|", "|\xff\r\t|", "~!@$%^&*_-+=<>.?/#:',", "'", ",", "0"}
	if deep == 0 || source.Intn(3) == 0 {
		return word(words[source.Intn(len(words))])
	}
	s := list()
	for range source.Intn(5) {
		s.Kids = append(s.Kids, randomThing(source, deep-1))
	}
	return s
}

func TestPrintedIsParsed(t *testing.T) {
	source := rand.New(rand.NewSource(3))
	for range 5000 {
		s := randomThing(source, source.Intn(6))
		got, err := sexp.Parse(sexp.Print(s))
		if err != nil || len(got) != 1 || !same(got[0], s) {
			t.Fatalf("P2.3: Parse(%q): %v, %v", sexp.Print(s), got, err)
		}
	}
}

// spread writes the things with blanks and remarks wherever they may stand.
func spread(source *rand.Rand, text *strings.Builder, s api.Sexp) {
	gaps := []string{" ", "\t", "\r", "\n", " \n\t ", ";\n", "; a (| ]\n", ";;\r\xff\n "}
	gap := func() { text.WriteString(gaps[source.Intn(len(gaps))]) }
	gap()
	if !s.List {
		text.WriteString(s.Word)
	} else {
		text.WriteString("(")
		for _, kid := range s.Kids {
			spread(source, text, kid)
		}
		text.WriteString(")")
	}
	gap()
}

func TestBlanksAndRemarksSayNothing(t *testing.T) {
	source := rand.New(rand.NewSource(4))
	for range 5000 {
		s := randomThing(source, source.Intn(5))
		var text strings.Builder
		spread(source, &text, s)
		got, err := sexp.Parse(text.String() + ";" + sexp.Print(s))
		if err != nil || len(got) != 1 || !same(got[0], s) {
			t.Fatalf("P2.3: Parse(%q): %v, %v", text.String(), got, err)
		}
	}
}
