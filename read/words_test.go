package read_test

import (
	"fmt"
	"math/rand"
	"regexp"
	"slices"
	"strconv"
	"strings"
	"testing"

	"plait/api"
	"plait/read"
	"plait/sexp"
)

// The chapter's words, without read's own table.
const operatorWords = "not and or xor => = distinct ite bvnot bvneg bvand bvor bvxor bvnand bvnor bvxnor " +
	"bvadd bvsub bvmul bvudiv bvurem bvsdiv bvsrem bvsmod bvshl bvlshr bvashr " +
	"bvult bvule bvugt bvuge bvslt bvsle bvsgt bvsge bvcomp concat " +
	"extract zero_extend sign_extend rotate_left rotate_right repeat"

func reserved() []string {
	return append(strings.Fields(operatorWords), "true", "false", "let", "_")
}

var nameForm = regexp.MustCompile(`\A(?:\|[^|\n]*\||[a-zA-Z~!@$%^&*_+=<>.?/',-][a-zA-Z0-9~!@$%^&*_+=<>.?/#:',-]*)\z`)

func refName(w string) bool {
	return nameForm.MatchString(w) && !slices.Contains(reserved(), w)
}

func word(w string) api.Sexp { return api.Sexp{Word: w} }

func list(kids ...api.Sexp) api.Sexp { return api.Sexp{List: true, Kids: kids} }

// text parses a text of one thing.
func text(t testing.TB, s string) api.Sexp {
	t.Helper()
	l, err := sexp.Parse(s)
	if err != nil || len(l) != 1 {
		t.Fatalf("%q: %v", s, err)
	}
	return l[0]
}

func TestSortOfAllWidths(t *testing.T) {
	for w := -1; w <= 2000; w++ {
		got, e := read.Sort(text(t, fmt.Sprintf("(_ BitVec %d)", w)))
		if w >= 1 && w <= api.MaxWidth {
			if got != w || e != api.OK {
				t.Errorf("P5.1: (_ BitVec %d): %d, %v", w, got, e)
			}
		} else if got != 0 || e != api.ErrReadSort {
			t.Errorf("P5.1: (_ BitVec %d): %d, %v; should be no sort", w, got, e)
		}
	}
	if got, e := read.Sort(word("Bool")); got != 0 || e != api.OK {
		t.Errorf("P5.1: Bool: %d, %v", got, e)
	}
}

func TestNoSorts(t *testing.T) {
	for _, s := range []string{
		"bool", "|Bool|", "Int", "BitVec", "_", "4", "#b1", "()", "(Bool)", "(_)", "(_ Bool)", "(_ BitVec)", "(BitVec 4)", "(_ 4)",
		"(_ bitvec 4)", "(_ |BitVec| 4)", "(|_| BitVec 4)", "(BitVec _ 4)", "(_ BitVec 4 4)", "(_ BitVec 4 ())", "((_ BitVec 4))",
		"(_ BitVec (4))", "(_ (BitVec) 4)", "((_) BitVec 4)", "(_ BitVec ())", "(_ BitVec 04)", "(_ BitVec 00)", "(_ BitVec +4)", "(_ BitVec -4)",
		"(_ BitVec 4x)", "(_ BitVec x4)", "(_ BitVec 0x4)", "(_ BitVec 4_0)", "(_ BitVec 1_0)", "(_ BitVec 4.0)", "(_ BitVec 1e1)", "(_ BitVec #x4)", "(_ BitVec |4|)",
		"(_ BitVec 4294967300)", "(_ BitVec 18446744073709551620)", "(_ BitVec 340282366920938463463374607431768211460)",
		"(_ BitVec " + strings.Repeat("1", 1000) + ")",
	} {
		if got, e := read.Sort(text(t, s)); got != 0 || e != api.ErrReadSort {
			t.Errorf("P5.1: %s: %d, %v; should be no sort", s, got, e)
		}
	}
	odd := func(w string) api.Sexp { return api.Sexp{List: true, Word: w} }
	for _, x := range []api.Sexp{
		{}, word(""), odd("Bool"), word("(_ BitVec 4)"), word("Bool "), word("\u0664"),
		list(word("_"), word("BitVec"), word("")), list(word("_"), word("BitVec"), word("\u0664")), list(word("_"), word("BitVec"), word(" 4")),
		list(odd("_"), word("BitVec"), word("4")), list(word("_"), odd("BitVec"), word("4")), list(word("_"), word("BitVec"), odd("4")),
		{Word: "Int", Kids: []api.Sexp{word("_"), word("BitVec"), word("4")}},
	} {
		if got, e := read.Sort(x); got != 0 || e != api.ErrReadSort {
			t.Errorf("P5.1: %#v: %d, %v; should be no sort", x, got, e)
		}
	}
}

// What a list's Word and a word's Kids are says nothing.
func TestSortBesideTheForm(t *testing.T) {
	x := api.Sexp{List: true, Word: "Int", Kids: []api.Sexp{{Word: "_", Kids: []api.Sexp{{}}}, {Word: "BitVec", Kids: []api.Sexp{{}}}, {Word: "7", Kids: []api.Sexp{{}}}}}
	if got, e := read.Sort(x); got != 7 || e != api.OK {
		t.Errorf("P5.1: a list with a Word: %d, %v", got, e)
	}
	if got, e := read.Sort(api.Sexp{Word: "Bool", Kids: []api.Sexp{{}}}); got != 0 || e != api.OK {
		t.Errorf("P5.1: a word with Kids: %d, %v", got, e)
	}
}

func checkName(t *testing.T, w string) {
	t.Helper()
	if got, want := read.Name(w), refName(w); got != want {
		t.Errorf("P5.1: Name(%q): %v", w, got)
	}
}

func TestNames(t *testing.T) {
	for w, want := range map[string]bool{
		"x": true, "X": true, "||": true, "| |": true, "|and|": true, "|5|": true, "|#b1|": true, "|:a|": true, "|true|": true, "|_|": true, "|let|": true,
		"_x": true, "__": true, "lets": true, "And": true, "True": true, "bv1": true, "bv": true, "Bool": true, "BitVec": true, "x#": true, "x:": true, "x1": true,
		"-": true, "-1": true, "==": true, "<": true, "?1": true, "'": true, ",": true, "|\xff\x00|": true, "|;()|": true,
		"": false, "1": false, "1x": false, "0": false, "#": false, "#x": false, "#b0": false, ":": false, ":x": false, " ": false, "x ": false, " x": false,
		"a b": false, "(": false, "x)": false, "|": false, "|x": false, "x|": false, "x|y|": false, "|x|y": false, "|x||": false, "|\n|": false, "\"x\"": false, "ä": false, "x;": false, "\xff": false, "x\x00": false, "{": false, "[": false, "\\": false, "`": false,
	} {
		if read.Name(w) != want {
			t.Errorf("P5.1: Name(%q): %v", w, !want)
		}
		if refName(w) != want {
			t.Errorf("the test's own form of %q", w)
		}
	}
	for _, w := range reserved() {
		if read.Name(w) {
			t.Errorf("P5.1: Name(%q): true", w)
		}
		for _, near := range []string{w + "_", "." + w, strings.ToUpper(w) + "x", "|" + w + "|"} {
			checkName(t, near)
		}
	}
	if n := len(strings.Fields(operatorWords)); n != 43 {
		t.Errorf("the test has %d operators", n)
	}
}

func TestNamesOfAllShortTexts(t *testing.T) {
	for a := range 256 {
		checkName(t, string([]byte{byte(a)}))
		for b := range 256 {
			checkName(t, string([]byte{byte(a), byte(b)}))
			checkName(t, string([]byte{'|', byte(a), byte(b)}))
			checkName(t, string([]byte{byte(a), byte(b), '|'}))
		}
		checkName(t, string([]byte{'|', byte(a), '|'}))
	}
	r := rand.New(rand.NewSource(1))
	const some = "ab_|| 1#:-=>\n"
	for range 20000 {
		w := make([]byte, r.Intn(6))
		for i := range w {
			w[i] = some[r.Intn(len(some))]
		}
		checkName(t, string(w))
	}
	checkName(t, strings.Repeat("x", 1<<20))
	checkName(t, "|"+strings.Repeat(" ", 1<<20)+"|")
	checkName(t, "x"+strconv.Itoa(5))
}
