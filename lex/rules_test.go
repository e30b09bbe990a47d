package lex_test

import (
	"go/parser"
	"go/token"
	"math"
	"os"
	"slices"
	"strconv"
	"strings"
	"testing"
	"unsafe"

	"redactor/api"
	"redactor/lex"
)

// What the calls are, as the chapter lists them: another signature would not compile.
var (
	_ func(string) ([]api.Token, api.Errno, int) = lex.Tokens
	_ func([]api.Token) string                   = lex.Print
)

// The words and limits that the layer stands on, as the document has them.
func TestNumbersOfTheDocument(t *testing.T) {
	kinds := []uint8{api.Word, api.Sign, api.Scalar, api.Quoted, api.Name, api.EndTok}
	if !slices.Equal(kinds, []uint8{1, 2, 3, 4, 5, 6}) || api.MaxDef != 4000 || api.MaxTokens != 1000 || api.ErrLong != 3 || api.ErrToken != 20 {
		t.Error("a kind, a limit or an error has another number")
	}
}

// R1: with an error there are no tokens, however many stand ahead of it, and too many of anything have no place.
func TestErrorHasNoTokens(t *testing.T) {
	for n := range 40 {
		ahead := strings.Repeat("a ", n)
		expectTokenError(t, ahead+"!", 2*n)
		expectTokenError(t, ahead+"<UD800>", 2*n)
		expectError(t, ahead+strings.Repeat(";", 1000), api.ErrLong, 0)
		expectError(t, ahead+strings.Repeat(" ", 4001-2*n), api.ErrLong, 0)
	}
}

// R2: what is handed in stays as it is, up to its memory's end.
func TestHandedInStays(t *testing.T) {
	l := []api.Token{word("a", 1), scalar(-5, 2), quoted("b", 3), {Kind: 9, Text: "c", N: 4, At: -1}, end(5), name("d", 6)}
	before := slices.Clone(l)
	for n := range len(l) + 1 {
		lex.Print(l[:n])
	}
	if !slices.Equal(l, before) {
		t.Errorf("now %v, before %v", l, before)
	}
}

// R2: what was handed in may be written over later, even the memory of a text.
func TestHandedInIsNotKept(t *testing.T) {
	memory := []byte("class ; <U0041> <ch> \"xyz\" ...")
	l, _, _ := lex.Tokens(unsafe.String(&memory[0], len(memory)))
	want, _, _ := tokens(string(memory))
	clear(memory)
	if !slices.Equal(l, want) {
		t.Errorf("Tokens keeps its text: %v", l)
	}
	kept := []byte("xyz")
	list := []api.Token{word(unsafe.String(&kept[0], len(kept)), 0)}
	text := lex.Print(list)
	clear(kept)
	clear(list)
	if text != "xyz " {
		t.Errorf("Print keeps its tokens: %q", text)
	}
}

// R2: what comes out is new memory, whoever writes to it or lays more behind it.
func TestComesOutNew(t *testing.T) {
	const s = "a;<b>\"c\" <U0041>\n..."
	want, _, _ := tokens(s)
	one, _, _ := lex.Tokens(s)
	other, _, _ := lex.Tokens(s)
	clear(one[:cap(one)])
	again, _, _ := lex.Tokens(s)
	if !slices.Equal(other, want) || !slices.Equal(again, want) {
		t.Errorf("%v, %v share memory", other, again)
	}
	for i := range other {
		if x, y := other[i].Text, again[i].Text; len(x) > 1 && unsafe.StringData(x) == unsafe.StringData(y) {
			t.Errorf("%q of two calls shares memory", x)
		}
	}
}

// R2: what lies behind a list's length is not of it: neither a token nor a text.
func TestBehindTheLength(t *testing.T) {
	whole := []api.Token{word("a", 0), sign(";", 0), scalar(0x41, 0), end(0), quoted("b", 0)}
	for n := range len(whole) + 1 {
		checkPrint(t, whole[:n])
		checkPrint(t, whole[n:n])
	}
	for n := range 40 {
		l, _, _ := lex.Tokens(strings.Repeat(";\n", n))
		for _, behind := range l[len(l):cap(l)] {
			if behind != (api.Token{}) {
				t.Errorf("%v is handed out behind %v", behind, l)
			}
		}
	}
}

// R4: a call knows nothing of those ahead of it: neither tokens nor an error nor half a token is carried on.
func TestCallsKeepNothing(t *testing.T) {
	ask := func() string {
		l, e, at := lex.Tokens("a <U0041>\n")
		m, f, place := lex.Tokens("b .")
		return lex.Print(l) + strconv.Itoa(len(m)) + " " + strconv.Itoa(int(e)) + " " + strconv.Itoa(at) + " " + strconv.Itoa(int(f)) + " " + strconv.Itoa(place)
	}
	first := ask()
	for _, s := range []string{"x", "<U00", "\"x", "%x", "..", "x !", strings.Repeat(";", 1000), strings.Repeat(" ", 4001)} {
		lex.Tokens(s)
		lex.Print([]api.Token{word(s, 0)})
		if again := ask(); again != first || first != "a <U0041> \n0 0 0 20 2" {
			t.Errorf("first %q, then %q", first, again)
		}
	}
}

// R5, and that the layer stands on api and cell: what it imports can neither print, nor wait, nor ask a clock.
func TestStandsOnApiAndCell(t *testing.T) {
	may := []string{"redactor/api", "redactor/cell", "strconv", "strings"}
	files, err := os.ReadDir(".")
	if err != nil {
		t.Fatal(err)
	}
	for _, f := range files {
		if !strings.HasSuffix(f.Name(), ".go") || strings.HasSuffix(f.Name(), "_test.go") {
			continue
		}
		tree, err := parser.ParseFile(token.NewFileSet(), f.Name(), nil, parser.ImportsOnly)
		if err != nil {
			t.Fatal(err)
		}
		for _, i := range tree.Imports {
			if path, _ := strconv.Unquote(i.Path.Value); !slices.Contains(may, path) {
				t.Errorf("%s imports %s", f.Name(), path)
			}
		}
	}
}

// R6: no list and an empty one are the same thing, wherever the empty one lies.
func TestNilIsEmpty(t *testing.T) {
	l := []api.Token{word("a", 0), end(0)}
	for _, empty := range [][]api.Token{nil, {}, l[:0], l[1:1], l[2:]} {
		if got := lex.Print(empty); got != "" {
			t.Errorf("Print(%#v) = %q", empty, got)
		}
	}
	if got, e, at := lex.Tokens("a"[:0]); len(got) != 0 || e != api.OK || at != 0 {
		t.Errorf("Tokens of nothing = %v, %d, %d", got, e, at)
	}
}

// R7: of each kind what the chapter does not name is nought: N of all but a Scalar, Text of a Scalar and of an EndTok.
func TestOtherFieldsAreNoughts(t *testing.T) {
	l, _, _ := lex.Tokens("<U0041>a;<U0042><b>\"c\"<U0043>\n<U0044>...")
	if len(l) != 11 {
		t.Fatalf("%d tokens", len(l))
	}
	for _, one := range l {
		hasText := one.Kind != api.Scalar && one.Kind != api.EndTok
		if hasText != (one.Text != "") || (one.Kind == api.Scalar) != (one.N != 0) {
			t.Errorf("%+v has what its kind does not tell", one)
		}
	}
}

// T5: each call ends with an answer, whatever it is asked: pieces and whole texts, over and over, too.
func TestAnyInput(t *testing.T) {
	pieces := []string{"a", "U0041", ";", ".", "..", "...", "<", ">", "<>", "<U", "<U0041>", "<UD800>", "<UFFFFFF>", "<ch>", "\"", "\"\"", "\"x\"", "\n", "\t", " ", "%", "!", "\x00", "\r", "\xff", "\xc3\xa9", "\xed\xa0\x80"}
	for _, s := range pieces {
		for _, n := range []int{2, 499, 500, 999, 1000, 1001, 1333, 1334, 2000, 3999, 4000, 4001} {
			check(t, strings.Repeat(s, n))
			check(t, strings.Repeat(s, n)+" !")
			check(t, strings.Repeat(s+" ", n))
		}
	}
	rows(pieces, 3, func(s string) { check(t, s) })
	for _, n := range []int{math.MinInt, -1, 0, 0xffff, math.MaxInt} {
		for kind := range 256 {
			checkPrint(t, []api.Token{{Kind: uint8(kind), Text: "<\xff\"\n", N: n, At: n}})
		}
	}
	if got := lex.Print(slices.Repeat([]api.Token{scalar(0x10ffff, 0)}, 100000)); len(got) != 1000000 {
		t.Errorf("Print of many has %d bytes", len(got))
	}
}

func FuzzTokens(f *testing.F) {
	for _, s := range []string{"", "class <U0041>;%x", "toupper (<U0061>,<U0041>)\norder <ch>;\"c\x00h\"", "a...b <U110000>", "\"a\n\"", "<Ud7fF><U041><>", "%\n\t\n.."} {
		f.Add(s)
	}
	f.Fuzz(func(t *testing.T, s string) { check(t, s) })
}

func FuzzPrint(f *testing.F) {
	f.Add(uint8(3), "x", 0x41)
	f.Add(uint8(4), "\"\n", -1)
	f.Add(uint8(0), "\xff", math.MaxInt)
	f.Fuzz(func(t *testing.T, kind uint8, text string, n int) {
		l := []api.Token{{Kind: kind, Text: text, N: n}, {Kind: kind + 1, Text: text, N: -n}, {Kind: kind + 2, Text: text, N: n}}
		checkPrint(t, l)
		// What was printed is a text like any other one.
		check(t, lex.Print(l))
	})
}
