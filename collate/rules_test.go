package collate_test

import (
	"fmt"
	"go/parser"
	"go/token"
	"math/rand"
	"os"
	"slices"
	"strconv"
	"strings"
	"sync"
	"testing"
	"unsafe"

	"redactor/api"
	"redactor/cell"
	"redactor/collate"
	"redactor/locale"
)

// What the calls are, as the chapter lists them: another signature would not compile.
var (
	_ func(api.Locale) *collate.Table                                        = collate.New
	_ func() api.Locale                                                      = collate.Plain
	_ func(*collate.Table, string) ([]api.Range, bool)                       = (*collate.Table).Class
	_ func(*collate.Table, string, api.Cell) bool                            = (*collate.Table).Is
	_ func(*collate.Table, api.Cell) api.Cell                                = (*collate.Table).Upper
	_ func(*collate.Table, api.Cell) api.Cell                                = (*collate.Table).Lower
	_ func(*collate.Table, api.Cell) []api.Cell                              = (*collate.Table).Fold
	_ func(*collate.Table, []api.Cell) int                                   = (*collate.Table).Rank
	_ func(*collate.Table, string) []api.Cell                                = (*collate.Table).Named
	_ func(*collate.Table, []api.Cell) [][]api.Cell                          = (*collate.Table).Alike
	_ func(*collate.Table, []api.Cell, []api.Cell) ([][]api.Cell, api.Errno) = (*collate.Table).Between
	_ func(*collate.Table) int                                               = (*collate.Table).Asked
)

// The numbers that the layer stands on, as the document has them.
func TestNumbersOfTheDocument(t *testing.T) {
	if api.ErrRange != 40 || api.MaxOrder != 500 || api.MaxElem != 4 || api.MaxScalar != 0x10ffff {
		t.Error("an error or a limit has another number")
	}
}

// R1: with an error there are no rows; of a class that is none there are no ranges.
func TestErrorHasNothing(t *testing.T) {
	table := tableOf(t, parsed(t, wholeText))
	for _, l := range [][2][]api.Cell{{{'b'}, {'a'}}, {{'q'}, {'a'}}, {{'a'}, {'q'}}, {{'q'}, {'r'}}, {nil, {'a'}}, {{'a'}, nil}, {nil, nil}, {{'c', 'h'}, {'c'}}} {
		if rows, e := table.Between(l[0], l[1]); rows != nil || e != api.ErrRange {
			t.Errorf("Between(%v) = %v, %d", l, rows, e)
		}
	}
	if ranges, is := table.Class("none"); ranges != nil || is {
		t.Errorf("Class(none) = %v, %v", ranges, is)
	}
}

// answers are all that a table answers to some questions, as a text.
func answers(table *collate.Table) string {
	var s strings.Builder
	for _, name := range []string{"vowel", "over", "gap", "upper", "xdigit", "none", "ch", "a", "é", ""} {
		ranges, is := table.Class(name)
		fmt.Fprintln(&s, name, ranges, is, table.Is(name, 'e'), table.Named(name))
	}
	for _, c := range []api.Cell{'a', 'A', 'b', 0x131, 0x10, 2, -1} {
		fmt.Fprintln(&s, c, table.Upper(c), table.Lower(c), table.Fold(c), table.Rank([]api.Cell{c}), table.Alike([]api.Cell{c}))
	}
	for _, l := range [][]api.Cell{nil, {'c', 'h'}, {'C', 'h'}, {'x', 'y'}} {
		rows, e := table.Between([]api.Cell{'a'}, l)
		fmt.Fprintln(&s, l, table.Rank(l), table.Alike(l), rows, e)
	}
	return s.String()
}

// R2: what is handed in stays as it is, whether it is right or wrong.
func TestHandedInStays(t *testing.T) {
	wrong := parsed(t, wholeText)
	wrong.Order[3].Same = 2
	for _, l := range []api.Locale{parsed(t, wholeText), collate.Plain(), wrong, {}} {
		before := copied(l)
		if table := collate.New(l); table != nil {
			answers(table)
		}
		if !equal(l, before) {
			t.Errorf("now %v, before %v", l, before)
		}
	}
	table := tableOf(t, parsed(t, wholeText))
	whole := []api.Cell{'c', 'h', 'x', 'y', -1, 'q', 'r', 's'}
	before := slices.Clone(whole)
	for n := range len(whole) + 1 {
		for from := range n + 1 {
			table.Rank(whole[from:n])
			table.Alike(whole[from:n])
			table.Between(whole[from:n], whole[:from])
			table.Between(whole[:from], whole[from:n])
		}
	}
	if !slices.Equal(whole, before) {
		t.Errorf("now %v, before %v", whole, before)
	}
}

func fill[T any](l []T, x T) {
	l = l[:cap(l)]
	for i := range l {
		l[i] = x
	}
}

// overwrite lays other things into all of a locale's memory, and behind each list.
func overwrite(l api.Locale) {
	for _, c := range l.Classes {
		fill(c.Ranges, span(7, 7))
	}
	for _, e := range l.Order {
		fill(e.Cells, 7)
	}
	fill(l.Classes, class("vowel"))
	fill(l.Upper, pair('a', 7))
	fill(l.Lower, pair('A', 7))
	fill(l.Order, api.Elem{Name: "ch", Same: 7})
}

// R2: a locale may be written over as soon as there is a table of it, ahead of all questions; the memory of its names, too.
func TestHandedInIsNotKept(t *testing.T) {
	want := answers(tableOf(t, parsed(t, wholeText)))
	l := parsed(t, wholeText)
	names := []byte("vowelch")
	l.Classes[0].Name = unsafe.String(&names[0], 5)
	l.Order[5].Name = unsafe.String(&names[5], 2)
	table := tableOf(t, l)
	overwrite(l)
	clear(names)
	if got := answers(table); got != want {
		t.Errorf("now %s, before %s", got, want)
	}
	name := []byte("é")
	cells := []api.Cell{'q', 'r'}
	named, alike := table.Named(unsafe.String(&name[0], len(name))), table.Alike(cells)
	clear(name)
	clear(cells)
	if !slices.Equal(named, []api.Cell{0xe9}) || !sameRows(alike, rowsOf("qr")) || answers(table) != want {
		t.Errorf("%v, %v are kept", named, alike)
	}
}

// R2: what comes out is new memory, whoever writes to it or lays more behind it.
func TestComesOutNew(t *testing.T) {
	table := tableOf(t, parsed(t, wholeText))
	want := answers(table)
	for range 2 {
		for _, name := range []string{"vowel", "over", "gap", "all", "none"} {
			l, _ := table.Class(name)
			fill(l, span(7, 7))
		}
		for _, name := range []string{"ch", "four", "a", "q", "é", ""} {
			fill(table.Named(name), 7)
		}
		for _, c := range []api.Cell{'a', 'b', 0x10, -1} {
			fill(table.Fold(c), 7)
		}
		for _, l := range rowsOf("a ch Ch xy qq b") {
			rows := table.Alike(l)
			for _, row := range rows {
				fill(row, 7)
			}
			fill(rows, nil)
		}
		rows, _ := table.Between([]api.Cell{'a'}, cell.Of("ée"))
		for _, row := range rows {
			fill(row, 7)
		}
		fill(rows, nil)
		if got := answers(table); got != want {
			t.Errorf("now %s, before %s", got, want)
		}
	}
	one := collate.Plain()
	overwrite(one)
	if a := ask(t, collate.Plain()); a.rank([]api.Cell{0x7f}) != 0x7f || !a.is("xdigit", 'f') || answers(a.Table) == want {
		t.Error("two plain locales share memory")
	}
	cells := []api.Cell{'q', 'r'}
	fill(table.Alike(cells)[0], 7)
	if !slices.Equal(cells, []api.Cell{'q', 'r'}) {
		t.Error("Alike hands out what was handed in")
	}
}

// R2: no row of an answer, and no list of Plain, shares memory with another one of it.
func TestRowsShareNothing(t *testing.T) {
	table := tableOf(t, parsed(t, wholeText))
	for call, of := range map[string]func() [][]api.Cell{
		"Alike":   func() [][]api.Cell { return table.Alike([]api.Cell{'a'}) },
		"Between": func() [][]api.Cell { rows, _ := table.Between([]api.Cell{'a'}, cell.Of("ée")); return rows },
		"Plain": func() [][]api.Cell {
			var rows [][]api.Cell
			for _, e := range collate.Plain().Order {
				rows = append(rows, e.Cells)
			}
			return rows
		},
	} {
		want := of()
		for n := range want {
			rows := of()
			fill(rows[n], 7)
			rows[n] = want[n]
			if !sameRows(rows, want) {
				t.Errorf("row %d of %s shares memory", n, call)
			}
		}
	}
	for n := range collate.Plain().Classes {
		l, want := collate.Plain(), collate.Plain()
		fill(l.Classes[n].Ranges, span(7, 7))
		l.Classes[n].Ranges = want.Classes[n].Ranges
		if !equal(l, want) {
			t.Errorf("the ranges of class %d share memory", n)
		}
	}
}

func expectNoughtsBehind[T comparable](t *testing.T, call string, l []T) {
	t.Helper()
	var none T
	for _, x := range l[len(l):cap(l)] {
		if x != none {
			t.Errorf("%s hands out %v behind %v", call, x, l)
		}
	}
}

// R2: what lies behind a list's length is neither read nor handed out.
func TestBehindTheLength(t *testing.T) {
	l := parsed(t, wholeText)
	l.Classes = append(l.Classes, class("none", span(1, 2)))[:len(l.Classes)]
	l.Classes[0].Ranges = append(l.Classes[0].Ranges, span('q', 'q'))[:3]
	l.Upper = append(l.Upper, pair('b', 'B'))[:len(l.Upper)]
	l.Lower = append(l.Lower, pair('B', 'b'))[:len(l.Lower)]
	l.Order = append(l.Order, named("q", "qq", 0))[:len(l.Order)]
	l.Order[5].Cells = append(l.Order[5].Cells, 's')[:2]
	if got, want := answers(tableOf(t, l)), answers(tableOf(t, parsed(t, wholeText))); got != want {
		t.Errorf("%s, without what lies behind %s", got, want)
	}
	table := tableOf(t, l)
	if table.Rank(cell.Of("qq")) != -1 || table.Named("q")[0] != 'q' || table.Upper('b') != 'b' || table.Lower('B') != 'B' || table.Is("vowel", 'q') || table.Is("none", 1) {
		t.Error("what lies behind is read")
	}
	handed := cell.Of("chs")
	if table.Rank(handed[:2]) != 5 || table.Rank(handed[:1]) != 4 || table.Rank(handed) != -1 {
		t.Error("Rank reads behind its cells")
	}
	for n := range 4 {
		expectNoughtsBehind(t, "Alike", table.Alike(handed[n:n])[0])
		expectNoughtsBehind(t, "Alike", table.Alike(handed[:n])[0])
	}
	for _, c := range []api.Cell{'a', 'b', 0x10, 0x131, -1} {
		expectNoughtsBehind(t, "Fold", table.Fold(c))
	}
	for _, name := range []string{"ch", "four", "a", "q", "\U0001f600"} {
		expectNoughtsBehind(t, "Named", table.Named(name))
	}
	for _, c := range slices.Concat(l.Classes, collate.Plain().Classes) {
		ranges, _ := table.Class(c.Name)
		expectNoughtsBehind(t, "Class", ranges)
	}
	rows, _ := table.Between([]api.Cell{'a'}, []api.Cell{'c'})
	for _, row := range rows {
		expectNoughtsBehind(t, "Between", row)
	}
	if behind := rows[:cap(rows)]; !sameRows(behind[len(rows):], make([][]api.Cell, cap(rows)-len(rows))) {
		t.Errorf("Between hands out %v", behind)
	}
	plain := collate.Plain()
	expectNoughtsBehind(t, "Plain", plain.Upper)
	expectNoughtsBehind(t, "Plain", plain.Lower)
}

// R4: tables know nothing of one another, even of one locale: each has its own answers, and counts its own calls.
func TestTablesKnowNothingOfOneAnother(t *testing.T) {
	l := parsed(t, wholeText)
	one, other, plain, none := tableOf(t, l), tableOf(t, l), tableOf(t, collate.Plain()), tableOf(t, api.Locale{})
	want, wantPlain, wantNone := answers(one), answers(plain), answers(none)
	n := one.Asked()
	if other.Asked() != 0 || plain.Asked() != n || n == 0 || want == wantPlain || wantPlain == wantNone {
		t.Errorf("asked %d, %d, %d", n, other.Asked(), plain.Asked())
	}
	for range 2 {
		if answers(none) != wantNone || answers(plain) != wantPlain || answers(other) != want || answers(one) != want {
			t.Error("a table answers as another one")
		}
	}
	if one.Asked() != 3*n || other.Asked() != 2*n || plain.Asked() != 3*n || none.Asked() != 3*n {
		t.Errorf("asked %d, %d, %d, %d", one.Asked(), other.Asked(), plain.Asked(), none.Asked())
	}
	if tableOf(t, l).Asked() != 0 {
		t.Error("New counts")
	}
}

// All answers are the definition's, however often they are asked for, and by how many at once; each call is counted.
func TestAskedAtOnce(t *testing.T) {
	l := parsed(t, wholeText)
	alone := tableOf(t, l)
	want := answers(alone)
	for range 20 {
		table := tableOf(t, l)
		got := make([]string, 16)
		var wait sync.WaitGroup
		for i := range got {
			wait.Go(func() { got[i] = answers(table) })
		}
		wait.Wait()
		for i, s := range got {
			if s != want {
				t.Fatalf("the answers %d are %s, want %s", i, s, want)
			}
		}
		if table.Asked() != 16*alone.Asked() {
			t.Fatalf("Asked() = %d, want %d", table.Asked(), 16*alone.Asked())
		}
	}
}

// R5, and that the layer stands on api, cell and locale: what it imports can neither print, nor wait, nor ask a clock.
func TestStandsOnTheLayersBelow(t *testing.T) {
	may := []string{"redactor/api", "redactor/cell", "redactor/locale", "iter", "slices", "strings", "sync", "sync/atomic"}
	files, err := os.ReadDir(".")
	if err != nil {
		t.Fatal(err)
	}
	for _, f := range files {
		if !strings.HasSuffix(f.Name(), ".go") || strings.HasSuffix(f.Name(), "_test.go") {
			continue
		}
		tree, err := parser.ParseFile(token.NewFileSet(), f.Name(), nil, parser.ImportsOnly)
		if err != nil {
			t.Fatal(err)
		}
		for _, i := range tree.Imports {
			if path, _ := strconv.Unquote(i.Path.Value); !slices.Contains(may, path) {
				t.Errorf("%s imports %s", f.Name(), path)
			}
		}
	}
}

// R6: no list and an empty one are the same thing.
func TestNilIsEmpty(t *testing.T) {
	cells := []api.Cell{'a', 'b'}
	empty := api.Locale{Classes: []api.Class{}, Upper: []api.Pair{}, Lower: []api.Pair{}, Order: []api.Elem{}}
	behind := parsed(t, wholeText)
	behind.Classes, behind.Upper, behind.Lower, behind.Order = behind.Classes[:0], behind.Upper[:0], behind.Lower[:0], behind.Order[:0]
	want := answers(tableOf(t, api.Locale{}))
	for _, l := range []api.Locale{empty, behind} {
		if got := answers(tableOf(t, l)); got != want {
			t.Errorf("of nothing %s, want %s", got, want)
		}
	}
	for _, l := range []api.Locale{{}, empty, behind, collate.Plain(), parsed(t, wholeText)} {
		a := ask(t, l)
		for _, none := range [][]api.Cell{nil, {}, cells[:0], cells[1:1], cells[2:]} {
			a.askCells(none)
			a.askBetween(none, none)
			a.askBetween(none, []api.Cell{'a'})
			a.askBetween([]api.Cell{'a'}, none)
		}
	}
}

// R7: with an error a row has nothing, and Plain's elements and classes have no more than is told of them.
func TestOtherFieldsAreNoughts(t *testing.T) {
	for at, e := range collate.Plain().Order {
		if e.Name != "" || e.Same != at || len(e.Cells) != 1 {
			t.Errorf("%v at %d", e, at)
		}
	}
}

// someLocale is a locale that is right, of whatever cells.
func someLocale(r *rand.Rand) api.Locale {
	var s strings.Builder
	scalar := func() string { return fmt.Sprintf("<U%04X>", 'a'+r.Intn(9)) }
	for n := range r.Intn(4) {
		low := 'a' + r.Intn(9)
		fmt.Fprintf(&s, "class c%d <U%04X>...<U%04X>;%s\n", n, low, low+r.Intn(5), scalar())
	}
	for n := range r.Intn(9) {
		fmt.Fprintf(&s, "%s (<U%04X>,%s)\n", []string{"toupper", "tolower"}[n%2], 'a'+n, scalar())
	}
	items := []string{"<U0061>", "<U0062>", "<U0063>", "<U0064>", "<U0065>"}
	for i, text := range []string{"ab", "ba", "aab", "abcd", "\xff\xfe"} {
		name := []string{"a", "b", "n", "o", "U"}[i]
		fmt.Fprintf(&s, "collating-element <%s> from \"%s\"\n", name, text)
		items = append(items, "<"+name+">")
	}
	r.Shuffle(len(items), func(i, j int) { items[i], items[j] = items[j], items[i] })
	for i, item := range items[:r.Intn(len(items)+1)] {
		s.WriteString("order " + item)
		if i > 0 && r.Intn(2) == 0 {
			s.WriteString(";" + items[r.Intn(i)])
		}
		s.WriteString("\n")
	}
	l, _, _ := locale.Parse(s.String())
	return l
}

// T5: each call ends with an answer, whatever it is asked: the test's own.
func TestAnyLocale(t *testing.T) {
	r := rand.New(rand.NewSource(7))
	elements := 0
	for range 1500 {
		l := someLocale(r)
		elements += len(l.Order)
		ask(t, l).askAll()
	}
	if elements < 3000 {
		t.Errorf("%d elements: too few to tell anything", elements)
	}
}

func TestManyOfAll(t *testing.T) {
	big := api.Locale{Classes: []api.Class{class(strings.Repeat("x", 1<<20), slices.Repeat([]api.Range{span(7, 9)}, 1<<20)...)}}
	for c := api.Cell(0); c < 0xd800; c++ {
		big.Upper = append(big.Upper, pair(c, c^1))
	}
	table := tableOf(t, big)
	if l, is := table.Class(strings.Repeat("x", 1<<20)); len(l) != 1<<20 || !is || table.Is(big.Classes[0].Name, 10) {
		t.Errorf("Class of much: %d", len(l))
	}
	for c := api.Cell(0); c < 0xd800; c++ {
		if table.Upper(c) != c^1 || table.Lower(c) != c {
			t.Fatalf("%x becomes %x", c, table.Upper(c))
		}
	}
	if n := len(table.Named(strings.Repeat("a", 1<<20))); n != 0 {
		t.Errorf("a long name has %d cells", n)
	}
}

func FuzzTable(f *testing.F) {
	f.Add("class x <U0041>...<U0043>\ntoupper(<U0061>,<U0041>)\ncollating-element <ch> from \"ch\"\norder <U0063>\norder <ch>;<U0063>", "ch", "x", int32('a'))
	f.Add(wholeText, "a", "ée", int32(0x131))
	f.Add("order <U0000>...<U007F>", "\xff", "\x00", int32(-1))
	f.Fuzz(func(t *testing.T, s, one, other string, c int32) {
		l, _, _ := locale.Parse(s)
		a := ask(t, l)
		a.askAll()
		for _, text := range []string{one, other, one + other} {
			a.askName(text)
			a.askIs(text, api.Cell(c))
			a.askCells(cell.Of(text))
		}
		a.askCell(api.Cell(c))
		a.askCells([]api.Cell{api.Cell(c)})
		a.askBetween(cell.Of(one), cell.Of(other))
		a.askBetween([]api.Cell{api.Cell(c)}, cell.Of(one))
	})
}
