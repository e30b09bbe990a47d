package bracket_test

import (
	"go/parser"
	"go/token"
	"math/rand"
	"os"
	"slices"
	"strconv"
	"strings"
	"sync"
	"testing"

	"redactor/api"
	"redactor/bracket"
	"redactor/cell"
	"redactor/collate"
	"redactor/locale"
)

// What the calls are, as the chapter lists them: another signature would not compile.
var (
	_ func([]api.Cell, int, *collate.Table) (api.Bracket, int, api.Errno, int) = bracket.Parse
	_ func(api.Cell, api.Cell, *collate.Table) bool                            = bracket.Alike
	_ func(api.Bracket, []api.Cell, int, *collate.Table) []int                 = bracket.Lengths
)

// The numbers that the layer stands on, as the document has them.
func TestNumbersOfTheDocument(t *testing.T) {
	if api.OK != 0 || api.ErrForm != 30 || api.ErrName != 31 || api.ErrRange != 40 {
		t.Error("an error has another number")
	}
}

// wholeBracket has something of each item.
const wholeBracket = "a-d[.ch.][:vowel:][=c=]é-ü[.four.]-[.dash.]]"

const wholeShown = `a A \u{e1} d a e..i o c \u{e9}..\u{fc} =ch =ch =Ch =abcd =-]`

// R1, R7: with an error there is neither a set nor a place behind it, whatever was read ahead of it; without one no place of an error.
func TestErrorHasNothing(t *testing.T) {
	a := askWhole(t)
	for behind, want := range map[string]api.Errno{"": 30, "[:none:]]": 31, "[.none.]]": 31, "[=none=]]": 31, "d-a]": 40, "ü-é]": 40, "[..]]": 30, "a-[.none.]]": 31} {
		for _, ahead := range []string{"", "^"} {
			text := ahead + strings.TrimSuffix(wholeBracket, "]") + behind
			s, to, e, at := bracket.Parse(cell.Of(text), 0, a.table)
			if s.Not || s.Ranges != nil || s.Texts != nil || to != 0 || e != want || at == 0 {
				t.Errorf("Parse(%s) = %v, %d, %d, %d", text, s, to, e, at)
			}
		}
	}
	l := cell.Of(wholeBracket)
	if s, to, e, at := bracket.Parse(l, 0, a.table); shown(s) != wholeShown || to != len(l) || e != api.OK || at != 0 {
		t.Errorf("Parse(%s) = %q, %d, %d, %d", wholeBracket, shown(s), to, e, at)
	}
}

// R1: of several errors it is the one that is met first as cells are read.
func TestFirstError(t *testing.T) {
	a := askWhole(t)
	wrong := map[string]api.Errno{"[:none:]": 31, "[.none.]": 31, "[=none=]": 31, "d-a": 40, "[..]": 30, "[.a": 30, "[:vowel:x": 30, "a-[.none.]": 31, "[.none.]-[..]": 31, "[.d.]-[..]": 30}
	for one, want := range wrong {
		for other := range wrong {
			// A sign of one kind within what is not ended would end it.
			if want == api.ErrForm && strings.Contains(one, "[.a") && strings.Contains(other, ".") {
				continue
			}
			text := one + " " + other + "]"
			if _, _, e, _ := bracket.Parse(cell.Of(text), 0, a.table); e != want {
				t.Errorf("Parse(%s): %d, want %d", text, e, want)
			}
		}
	}
}

// R2: what is handed in stays as it is.
func TestHandedInStays(t *testing.T) {
	a := askWhole(t)
	r := rand.New(rand.NewSource(21))
	for range 2000 {
		l, s, row := someText(r), someSet(r), someRow(r, 9)
		lBefore, sBefore, rowBefore := slices.Clone(l), copied(s), slices.Clone(row)
		bracket.Parse(l, r.Intn(len(l)+2), a.table)
		bracket.Lengths(s, row, r.Intn(len(row)+2), a.table)
		bracket.Lengths(s, l, 0, nil)
		if !slices.Equal(l, lBefore) || !same(s, sBefore) || !slices.Equal(row, rowBefore) {
			t.Fatalf("now %v, %v, %v, before %v, %v, %v", l, s, row, lBefore, sBefore, rowBefore)
		}
	}
	if s, _, _, _ := bracket.Parse(cell.Of(wholeBracket), 0, a.table); shown(s) != wholeShown {
		t.Errorf("the table changed: %s", shown(s))
	}
}

func fill[T any](l []T, x T) {
	l = l[:cap(l)]
	for i := range l {
		l[i] = x
	}
}

func overwrite(s api.Bracket) {
	for _, l := range s.Texts {
		fill(l, 7)
	}
	fill(s.Texts, nil)
	fill(s.Ranges, span(7, 7))
}

// R2: cells may be written over as soon as the call is done: also those that are told as they stand there.
func TestHandedInIsNotKept(t *testing.T) {
	a := askWhole(t)
	for text, want := range map[string]string{wholeBracket: wholeShown, "[.ll.][.-].]x]": "x =ll =-]", "[=ll=]é]": `\u{e9} =ll`, "[.xy.]-[.abcd.]]": "=xy =abcd", "^é-ü]": `not \u{e9}..\u{fc}`} {
		l := cell.Of(text)
		s, _, _, _ := bracket.Parse(l, 0, a.table)
		fill(l, 7)
		if shown(s) != want {
			t.Errorf("Parse(%s) is now %q", text, shown(s))
		}
	}
}

// R2: what comes out is new memory, whoever writes to it or lays more behind it.
func TestComesOutNew(t *testing.T) {
	a := askWhole(t)
	l := cell.Of(wholeBracket + " [.ll.][.-].]]")
	want := slices.Clone(l)
	for range 3 {
		for at, text := range map[int]string{0: wholeShown, len(cell.Of(wholeBracket)): "  =ll =-]"} {
			one, _, _, _ := bracket.Parse(l, at, a.table)
			other, _, _, _ := bracket.Parse(l, at, a.table)
			overwrite(one)
			if shown(other) != text || !slices.Equal(l, want) {
				t.Fatalf("now %q, %s", shown(other), cell.Text(l))
			}
			overwrite(other)
		}
		s := set("ch chc", span('c', 'c'))
		one, other := bracket.Lengths(s, cell.Of("chc"), 0, a.table), bracket.Lengths(s, cell.Of("chc"), 0, a.table)
		fill(one, 7)
		if !slices.Equal(other, []int{3, 2, 1}) || !same(s, set("ch chc", span('c', 'c'))) {
			t.Errorf("now %v, %v", other, s)
		}
	}
}

// R2: no text of a set shares memory with another one of it, though it is told twice.
func TestTextsShareNothing(t *testing.T) {
	a := askWhole(t)
	l := cell.Of("[.ch.][.ch.][=c=][.ll.][.ll.][.ch.]-[.l2.][=ll=][=ll=]]")
	want, _, _, _ := bracket.Parse(l, 0, a.table)
	if len(want.Texts) != 11 {
		t.Fatalf("there are %d texts", len(want.Texts))
	}
	for n := range want.Texts {
		s, _, _, _ := bracket.Parse(l, 0, a.table)
		fill(s.Texts[n], 7)
		s.Texts[n] = want.Texts[n]
		if !same(s, want) {
			t.Errorf("text %d shares memory: %s", n, shown(s))
		}
	}
}

func expectNoughtsBehind[T comparable](t *testing.T, l []T) {
	t.Helper()
	var none T
	for _, x := range l[len(l):cap(l)] {
		if x != none {
			t.Errorf("%v is handed out behind %v", x, l)
		}
	}
}

// R2: what lies behind a list's length is neither read, nor written, nor handed out.
func TestBehindTheLength(t *testing.T) {
	a := askWhole(t)
	for _, text := range []string{wholeBracket, "[.ch.]-[.l2.]]x", "^[.ch.][=c=]x]", "[:vowel:]-]", "]-]]"} {
		l := cell.Of(text)
		behind := slices.Clone(l)
		for n := range l {
			s, to, e, at := bracket.Parse(l[:n], 0, a.table)
			want, wantTo, wantE, wantAt := bracket.Parse(slices.Clone(l[:n]), 0, a.table)
			if !same(s, want) || to != wantTo || e != wantE || at != wantAt || to > n || at > n {
				t.Errorf("of %s, with more behind: %v, %d, %d, %d", cell.Text(l[:n]), s, to, e, at)
			}
			a.expect(l[:n], 0)
		}
		if !slices.Equal(l, behind) {
			t.Errorf("%s is written", text)
		}
		s, _, _, _ := bracket.Parse(l, 0, a.table)
		expectNoughtsBehind(t, s.Ranges)
		for _, l := range s.Texts[:cap(s.Texts)] {
			expectNoughtsBehind(t, l)
		}
		for _, l := range s.Texts[len(s.Texts):cap(s.Texts)] {
			if l != nil {
				t.Errorf("%v is handed out behind the texts", l)
			}
		}
		if s.Not && cap(s.Texts) > 0 {
			t.Errorf("texts that are left out lie behind those of %s", text)
		}
	}
	text := cell.Of("chx")
	texts := [][]api.Cell{text[:2], {'x', 'y'}, {'c', 'h', 'x', 'y'}}
	ranges := []api.Range{span('x', 'x'), span('c', 'c')}
	s := api.Bracket{Ranges: ranges[:1], Texts: texts[:1]}
	l := cell.Of("chxy")
	for n := range l {
		for at := range n + 2 {
			a.expectLengths(s, l[:n], at)
			expectNoughtsBehind(t, bracket.Lengths(s, l[:n], at, a.table))
		}
	}
	many := set("ch ch ch chx ch", span('c', 'c'))
	expectNoughtsBehind(t, bracket.Lengths(many, l, 0, a.table))
	if text[2] != 'x' || len(texts[1]) != 2 || ranges[1] != span('c', 'c') || !slices.Equal(l, cell.Of("chxy")) {
		t.Error("what lies behind is written")
	}
}

// R4, T3: many may ask at once, of one table, and of several; no call changes another one's answer.
func TestManyAtOnce(t *testing.T) {
	plain, whole := askPlain(t), askWhole(t)
	r := rand.New(rand.NewSource(22))
	var texts [][]api.Cell
	var wants []string
	tell := func(a asking, l []api.Cell) string {
		s, to, e, at := bracket.Parse(l, 0, a.table)
		told := shown(s) + " " + strconv.Itoa(to) + " " + e.Error() + " " + strconv.Itoa(at)
		for _, c := range someCells {
			told += " " + strconv.Itoa(len(bracket.Lengths(s, []api.Cell{c, 'h'}, 0, a.table)))
		}
		return told
	}
	for range 200 {
		l := someText(r)
		texts, wants = append(texts, l), append(wants, tell(plain, l)+tell(whole, l))
	}
	var wait sync.WaitGroup
	for range 8 {
		wait.Go(func() {
			for i, l := range texts {
				if got := tell(plain, l) + tell(whole, l); got != wants[i] {
					t.Errorf("%s is now %s, before %s", cell.Text(l), got, wants[i])
				}
			}
		})
	}
	wait.Wait()
}

// R5, and that the layer stands on api, cell and collate: what it imports can neither print, nor wait, nor ask a clock.
func TestStandsOnTheLayersBelow(t *testing.T) {
	may := []string{"redactor/api", "redactor/cell", "redactor/collate", "slices"}
	files, err := os.ReadDir(".")
	if err != nil {
		t.Fatal(err)
	}
	for _, f := range files {
		if !strings.HasSuffix(f.Name(), ".go") || strings.HasSuffix(f.Name(), "_test.go") {
			continue
		}
		file, err := parser.ParseFile(token.NewFileSet(), f.Name(), nil, parser.ImportsOnly)
		if err != nil {
			t.Fatal(err)
		}
		for _, i := range file.Imports {
			if path, _ := strconv.Unquote(i.Path.Value); !slices.Contains(may, path) {
				t.Errorf("%s imports %s", f.Name(), path)
			}
		}
	}
}

// R6: no list and an empty one are the same thing.
func TestNilIsEmpty(t *testing.T) {
	a := askWhole(t)
	l := cell.Of("ab")
	for _, none := range [][]api.Cell{nil, {}, l[:0], l[1:1], l[2:]} {
		for _, at := range []int{-1, 0, 1} {
			a.expect(none, at)
			a.expectLengths(set("ch", span('a', 'c')), none, at)
			a.expectLengths(notIn(set("ch", span('a', 'c'))), none, at)
		}
		a.expectLengths(api.Bracket{Texts: [][]api.Cell{none, {'a', 'b'}, none}}, l, 0)
	}
	for _, not := range []bool{false, true} {
		for _, s := range []api.Bracket{{Not: not}, {Not: not, Ranges: []api.Range{}, Texts: [][]api.Cell{}}, {Not: not, Ranges: make([]api.Range, 0, 3), Texts: make([][]api.Cell, 0, 3)}} {
			for at := range 3 {
				a.expectLengths(s, l, at)
			}
		}
	}
	// A locale without anything has neither names nor places.
	nothing := ask(t, api.Locale{})
	for _, text := range []string{"a-c]", "c-a]", "[:digit:]]", "[.a.]]", "[.é.]]", "[=a=]-]", "[.aa.]]", "^]-é]", "[.a.]-[.z.]]"} {
		nothing.expect(cell.Of(text), 0)
	}
}

// T5: each call ends with an answer, however much there is.
func TestManyOfAll(t *testing.T) {
	const many = 1 << 20
	a := askWhole(t)
	for _, text := range []string{"a", "-", "[", "[[", "[.", "[:", "[=", "^", "[.ch.]", "[=c=]", "[:over:]", "a-b", "[.x", "a-[", "\xff"} {
		l := cell.Of(strings.Repeat(text, many/8/len(text)))
		bracket.Parse(l, 0, a.table)
		bracket.Parse(append(l, ']'), 0, a.table)
		a.expect(l[:len(l)/4], 0)
	}
	for _, sign := range []string{":", "=", "."} {
		a.expect(cell.Of("["+sign+strings.Repeat("x", many)+sign+"]]"), 0)
		a.expect(cell.Of("["+sign+strings.Repeat("]", many)), 0)
	}
	l := make([]api.Cell, many)
	s := api.Bracket{Texts: [][]api.Cell{l, l[1:], l[:many/2], make([]api.Cell, many+1)}, Ranges: slices.Repeat([]api.Range{span('a', 'b')}, many)}
	if got := bracket.Lengths(s, l, 0, a.table); !slices.Equal(got, []int{many, many - 1, many / 2}) {
		t.Errorf("Lengths of much = %v", got)
	}
	s = api.Bracket{Texts: make([][]api.Cell, many), Not: true}
	if got := bracket.Lengths(s, l, many-1, nil); !slices.Equal(got, []int{1}) {
		t.Errorf("Lengths of much = %v", got)
	}
}

func FuzzBracket(f *testing.F) {
	f.Add("", "a-c[:digit:]]", 0)
	f.Add(wholeText, wholeBracket, 0)
	f.Add(wholeText, "^[.four.]-[.dash.][=ll=]]", 1)
	f.Add("order <U0062>\norder <U0061>;<U0062>\nclass x <U0000>...<U10FFFF>", "^b-a[:x:][=a=]\xff-é]", -1)
	f.Fuzz(func(t *testing.T, definition, text string, at int) {
		d, e, _ := locale.Parse(definition)
		if definition == "" || e != api.OK {
			d = collate.Plain()
		}
		a := ask(t, d)
		l := cell.Of(text)
		a.expect(l, at)
		s, _, _, _ := bracket.Parse(l, at, a.table)
		for at := range min(len(l), 20) {
			a.expectLengths(s, l, at)
		}
		a.expectLengths(s, l, at)
	})
}
