package locale_test

import (
	"fmt"
	"go/parser"
	"go/token"
	"math"
	"math/rand"
	"os"
	"slices"
	"strconv"
	"strings"
	"testing"
	"unsafe"

	"redactor/api"
	"redactor/cell"
	"redactor/locale"
)

// What the calls are, as the chapter lists them: another signature would not compile.
var (
	_ func(string) (api.Locale, api.Errno, int) = locale.Parse
	_ func(api.Locale) (string, api.Errno)      = locale.Print
	_ func(api.Locale) bool                     = locale.Right
)

// The words and limits that the layer stands on, as the document has them.
func TestNumbersOfTheDocument(t *testing.T) {
	errs := []api.Errno{api.ErrArg, api.ErrLong, api.ErrToken, api.ErrForm, api.ErrName, api.ErrTwice}
	limits := []int{api.MaxScalar, api.MaxDef, api.MaxTokens, api.MaxOrder, api.MaxElem}
	if !slices.Equal(errs, []api.Errno{1, 3, 20, 30, 31, 32}) || !slices.Equal(limits, []int{0x10ffff, 4000, 1000, 500, 4}) {
		t.Error("an error or a limit has another number")
	}
}

// wholeText is a definition of the whole, in other words than those that are printed.
const wholeText = "collating-element <ch> from \"ch\"\ncollating-element <e-1> from \"\xffé\"\norder <U0061>\norder <ch>\norder <U0041>;<U0061>\norder <e-1>\ncollating-element <CH> from \"Ch\"\norder <CH>;<ch>\norder <U0062>...<U0062>\n" +
	"tolower (<U0041>,<U0061>)\nclass x <U0041>...<U0043>;<U0061>\ntoupper (<U0061>,<U0041>)\nclass y-2 <UD7FF>...<UE000>\ntoupper (<U0062>,<U0042>)\n"

// R1: with an error there is nothing of a locale, whatever the lines ahead have told.
func TestErrorHasNoLocale(t *testing.T) {
	expect(t, wholeText, whole())
	for s, e := range map[string]api.Errno{"!x": api.ErrForm, "order !<x>": api.ErrName, "order !<U0061>": api.ErrTwice, "order !<U1000>...<U2000>": api.ErrLong, "class z <U0041>;!": api.ErrForm, "toupper (<U0063>,<U0043>);(!<U0063>,": api.ErrTwice, "order <U0063>...!": api.ErrForm} {
		expectAt(t, wholeText+s, e)
	}
	expectError(t, wholeText+"?", api.ErrToken, len(wholeText))
	expectError(t, wholeText+strings.Repeat(";", 1000), api.ErrLong, 0)
	expectError(t, wholeText+strings.Repeat(" ", 4000), api.ErrLong, 0)
}

// copied is a locale in memory of its own.
func copied(l api.Locale) api.Locale {
	l.Classes, l.Upper, l.Lower, l.Order = slices.Clone(l.Classes), slices.Clone(l.Upper), slices.Clone(l.Lower), slices.Clone(l.Order)
	for i := range l.Classes {
		l.Classes[i].Ranges = slices.Clone(l.Classes[i].Ranges)
	}
	for i := range l.Order {
		l.Order[i].Cells = slices.Clone(l.Order[i].Cells)
	}
	return l
}

// R2: what is handed in stays as it is, whether it is right or wrong.
func TestHandedInStays(t *testing.T) {
	wrong := whole()
	wrong.Order[3].Same = 2
	long := whole()
	long.Classes[0].Name = strings.Repeat("x", 5000)
	for _, l := range []api.Locale{whole(), wrong, long} {
		before := copied(l)
		locale.Right(l)
		locale.Print(l)
		if !equal(l, before) {
			t.Errorf("now %v, before %v", l, before)
		}
	}
}

// R2: what was handed in may be written over later, even the memory of a text.
func TestHandedInIsNotKept(t *testing.T) {
	memory := []byte(wholeText)
	l, e, _ := locale.Parse(unsafe.String(&memory[0], len(memory)))
	clear(memory)
	if !equal(l, whole()) || e != api.OK {
		t.Errorf("Parse keeps its text: %v", l)
	}
	name := []byte("name")
	handed := whole()
	handed.Classes[0].Name = unsafe.String(&name[0], len(name))
	text, _ := locale.Print(handed)
	clear(name)
	overwrite(handed)
	if text != strings.Replace(wholePrinted, "class x", "class name", 1) {
		t.Errorf("Print keeps its locale: %q", text)
	}
}

// overwrite lays other things into all of a locale's memory, and behind each list.
func overwrite(l api.Locale) {
	for _, c := range l.Classes {
		fill(c.Ranges, span(7, 7))
	}
	for _, e := range l.Order {
		fill(e.Cells, 7)
	}
	fill(l.Classes, class("over"))
	fill(l.Upper, pair(7, 7))
	fill(l.Lower, pair(7, 7))
	fill(l.Order, api.Elem{Name: "over", Same: 7})
}

func fill[T any](l []T, x T) {
	l = l[:cap(l)]
	for i := range l {
		l[i] = x
	}
}

// R2: what comes out is new memory, whoever writes to it or lays more behind it.
func TestComesOutNew(t *testing.T) {
	one, _, _ := locale.Parse(wholeText)
	other, _, _ := locale.Parse(wholeText)
	overwrite(one)
	again, _, _ := locale.Parse(wholeText)
	if !equal(other, whole()) || !equal(again, whole()) {
		t.Errorf("%v, %v share memory", other, again)
	}
	for i, c := range other.Classes {
		if unsafe.StringData(c.Name) == unsafe.StringData(again.Classes[i].Name) {
			t.Errorf("the name %s of two calls shares memory", c.Name)
		}
	}
	s, _ := locale.Print(whole())
	u, _ := locale.Print(whole())
	if unsafe.StringData(s) == unsafe.StringData(u) {
		t.Error("two texts share memory")
	}
}

// R2: no list of an answer shares memory with another one of it.
func TestListsShareNothing(t *testing.T) {
	for n := range whole().Order {
		l, _, _ := locale.Parse(wholeText)
		fill(l.Order[n].Cells, 7)
		for i, e := range whole().Order {
			if i != n && !slices.Equal(l.Order[i].Cells, e.Cells) {
				t.Errorf("the cells of %d and %d share memory", n, i)
			}
		}
	}
	l, _, _ := locale.Parse(wholeText)
	fill(l.Classes[0].Ranges, span(7, 7))
	fill(l.Upper, pair(7, 7))
	want := whole()
	if !slices.Equal(l.Classes[1].Ranges, want.Classes[1].Ranges) || !slices.Equal(l.Lower, want.Lower) || !slices.EqualFunc(l.Order, want.Order, func(x, y api.Elem) bool { return slices.Equal(x.Cells, y.Cells) }) {
		t.Errorf("lists share memory: %v", l)
	}
}

// pairLines are so many lines of one pair each.
func pairLines(n int) string {
	s := ""
	for i := range n {
		s += fmt.Sprintf("toupper (<U%04X>,<U0041>)\n", i)
	}
	return s
}

// R2: what lies behind a list's length is not of it.
func TestBehindTheLength(t *testing.T) {
	l := whole()
	l.Classes = append(l.Classes, class("x"))[:2]
	l.Classes[0].Ranges = append(l.Classes[0].Ranges, span(2, 1))[:2]
	l.Upper = append(l.Upper, pair(0x61, -1))[:2]
	l.Lower = append(l.Lower, pair(0x41, -1))[:1]
	l.Order = append(l.Order, single(-1, 9))[:6]
	l.Order[0].Cells = append(l.Order[0].Cells, '\n', -1)[:1]
	l.Order[1].Cells = append(l.Order[1].Cells, '"')[:2]
	expectRight(t, "wrong things behind each length", l)
	expectPrint(t, l, wholePrinted)
	l.Order[1].Cells = l.Order[1].Cells[:1]
	expectWrong(t, "a second cell behind the length", l)
	for n := range 40 {
		l, _, _ := locale.Parse(fmt.Sprintf("order <U0041>...<U%04X>\n", 0x41+n) + pairLines(n))
		for _, behind := range l.Order[len(l.Order):cap(l.Order)] {
			if behind.Name != "" || behind.Cells != nil || behind.Same != 0 {
				t.Errorf("%v is handed out behind %d elements", behind, len(l.Order))
			}
		}
		for _, behind := range l.Upper[len(l.Upper):cap(l.Upper)] {
			if behind != (api.Pair{}) {
				t.Errorf("%v is handed out behind %v", behind, l.Upper)
			}
		}
	}
}

// R4: a call knows nothing of those ahead of it: neither names nor what is there already is carried on.
func TestCallsKeepNothing(t *testing.T) {
	ask := func() string {
		_, e, at := locale.Parse("order <U0041>\norder <ch>")
		s, f := locale.Print(whole())
		return strconv.Itoa(int(e)) + " " + strconv.Itoa(at) + " " + s + strconv.Itoa(int(f)) + strconv.FormatBool(locale.Right(whole()))
	}
	first := ask()
	if first != "31 20 "+wholePrinted+"0true" {
		t.Errorf("first %q", first)
	}
	for _, s := range []string{wholeText, "class x <U0041>", "collating-element <ch> from \"ch\"", "collating-element <ch> from", "order <U0041>", "order <U0041>;", "order <U0061>...<U0063>\nx", "toupper (<U0061>,<U0041>)", "toupper (<U0061>,", "?", strings.Repeat(" ", 4001)} {
		for range 2 {
			_, e, at := locale.Parse(s)
			_, f, place := locale.Parse(s)
			if e != f || at != place || ask() != first {
				t.Errorf("after %q: %q", s, ask())
			}
		}
	}
	wrong := whole()
	wrong.Classes[1].Name = "x"
	long := whole()
	long.Classes[0].Name = strings.Repeat("x", 5000)
	for _, l := range []api.Locale{wrong, long, {}} {
		locale.Print(l)
		if again := ask(); again != first {
			t.Errorf("after %v: %q", l, again)
		}
	}
}

// R5, and that the layer stands on api, cell, lex and utf8: what it imports can neither print, nor wait, nor ask a clock.
func TestStandsOnTheLayersBelow(t *testing.T) {
	may := []string{"redactor/api", "redactor/cell", "redactor/lex", "redactor/utf8", "bytes", "slices", "strings"}
	files, err := os.ReadDir(".")
	if err != nil {
		t.Fatal(err)
	}
	for _, f := range files {
		if !strings.HasSuffix(f.Name(), ".go") || strings.HasSuffix(f.Name(), "_test.go") {
			continue
		}
		tree, err := parser.ParseFile(token.NewFileSet(), f.Name(), nil, parser.ImportsOnly)
		if err != nil {
			t.Fatal(err)
		}
		for _, i := range tree.Imports {
			if path, _ := strconv.Unquote(i.Path.Value); !slices.Contains(may, path) {
				t.Errorf("%s imports %s", f.Name(), path)
			}
		}
	}
}

// R6: no list and an empty one are the same thing.
func TestNilIsEmpty(t *testing.T) {
	empty := api.Locale{Classes: []api.Class{}, Upper: []api.Pair{}, Lower: []api.Pair{}, Order: []api.Elem{}}
	behind := whole()
	behind.Classes, behind.Upper, behind.Lower, behind.Order = behind.Classes[:0], behind.Upper[2:], behind.Lower[:0], behind.Order[:0]
	for _, l := range []api.Locale{{}, empty, behind} {
		expectRight(t, "nothing", l)
		expectPrint(t, l, "")
	}
	for _, none := range [][]api.Cell{nil, {}} {
		expectWrong(t, "no cells", order(api.Elem{Name: "n", Cells: none}))
		expectWrong(t, "no cells, no name", order(api.Elem{Cells: none}))
	}
}

// R7: an element of one scalar has no name.
func TestOtherFieldsAreNoughts(t *testing.T) {
	l, _, _ := locale.Parse(wholeText)
	for _, e := range l.Order {
		if (len(e.Cells) == 1) != (e.Name == "") {
			t.Errorf("%v has what its kind does not tell", e)
		}
	}
}

// pieces are what definitions are made of, right and wrong.
var pieces = []string{
	"class", "toupper", "tolower", "collating-element", "order", "from", "x", "y", ";", ",", "(", ")", "...", "<U0041>", "<U0043>", "<U0061>", "<UD7FF>", "<UE000>", "<U10FFFF>", "<ch>", "<ll>", "<z>", "\"ch\"", "\"ll\"", "\"c\"", "\"\"", "\"\xff\xfe\"", "\n", "%", "?", "\"", "<UD800>",
}

// someLine is a line that may be right, if those ahead of it let it.
func someLine(r *rand.Rand) string {
	scalar := func() string { return fmt.Sprintf("<U%04X>", 0x41+r.Intn(12)) }
	item := func() string { return []string{scalar(), scalar(), "<ch>", "<ll>", "<z>"}[r.Intn(5)] }
	items := func(one func() string) string {
		s := one()
		for r.Intn(3) > 0 {
			s += ";" + one()
		}
		return s
	}
	switch r.Intn(8) {
	case 0, 1:
		return "class " + string("abcdefgh"[r.Intn(8)]) + items(func() string { return scalar() + []string{"", "..." + scalar()}[r.Intn(4)/3] })
	case 2:
		return "toupper" + items(func() string { return "(" + scalar() + "," + scalar() + ")" })
	case 3:
		return "tolower" + items(func() string { return "(" + scalar() + "," + scalar() + ")" })
	case 4:
		return "collating-element" + []string{"<ch>from\"ch\"", "<ll>from\"ll\"", "<z>from\"ll\"", "<z>from\"z\"", "<ch>from\"éé\xff\xff\""}[r.Intn(5)]
	case 5:
		return "order" + item() + ";" + item()
	case 6:
		return "order" + scalar() + "..." + scalar()
	}
	return "order" + item()
}

// T5: each call ends with an answer, whatever it is asked.
func TestAnyText(t *testing.T) {
	r := rand.New(rand.NewSource(7))
	for range 30000 {
		s := ""
		for range r.Intn(9) {
			s += someLine(r) + "\n"
		}
		check(t, s)
		if len(s) > 0 {
			at := r.Intn(len(s))
			check(t, s[:at]+pieces[r.Intn(len(pieces))]+s[at:])
			check(t, s[:at]+s[min(at+1+r.Intn(9), len(s)):])
		}
	}
	for _, s := range pieces {
		for _, n := range []int{2, 3, 499, 999, 1000, 1001, 4000} {
			check(t, strings.Repeat(s, n))
			check(t, strings.Repeat(s+" ", n))
			check(t, strings.Repeat(s+"\n", n))
		}
	}
}

// spoil makes one thing of a locale another one.
func spoil(r *rand.Rand, l *api.Locale) {
	cells := append([]api.Cell{0x41, 0x61, 0x62, '"', '\n', -1 - 0xc3, -1 - 0xa9}, append(wrongCells, edgeCells...)...)
	c := cells[r.Intn(len(cells))]
	name := []string{"", "x", "y", "ch", "n", "U0041", "U041", "é", " ", "class"}[r.Intn(10)]
	e := &l.Order[r.Intn(len(l.Order))]
	switch r.Intn(10) {
	case 0:
		l.Classes[r.Intn(len(l.Classes))].Name = name
	case 1:
		x := &l.Classes[r.Intn(len(l.Classes))]
		x.Ranges = append(slices.Clone(x.Ranges), span(c, cells[r.Intn(len(cells))]))[r.Intn(2):]
	case 2:
		l.Upper[r.Intn(len(l.Upper))] = pair(c, cells[r.Intn(len(cells))])
	case 3:
		l.Lower[r.Intn(len(l.Lower))] = pair(c, cells[r.Intn(len(cells))])
	case 4:
		e.Name = name
	case 5:
		e.Same = r.Intn(8) - 1
	case 6:
		e.Cells = append(slices.Clone(e.Cells), c)
	case 7:
		e.Cells[r.Intn(len(e.Cells))] = c
	case 8:
		l.Order = append(l.Order, api.Elem{Name: name, Cells: []api.Cell{c, 'a'}[:1+r.Intn(2)], Same: len(l.Order) - r.Intn(2)})
	case 9:
		l.Classes = append(l.Classes, class(name, span(c, c)))
	}
}

func TestAnyLocale(t *testing.T) {
	r := rand.New(rand.NewSource(7))
	rights := 0
	for range 40000 {
		l := whole()
		for range 1 + r.Intn(2) {
			spoil(r, &l)
		}
		checkLocale(t, l)
		if locale.Right(l) {
			rights++
		}
	}
	if rights < 1000 || rights > 39000 {
		t.Errorf("%d are right: too few or too many to tell anything", rights)
	}
	for _, same := range []int{math.MinInt, math.MaxInt, math.MinInt32, math.MaxInt32} {
		expectWrong(t, "Same is far away", order(single(0x41, same)))
		expectWrong(t, "Same is far away", order(single(0x41, 0), single(0x42, same)))
	}
}

func TestManyOfAll(t *testing.T) {
	big := api.Locale{Classes: []api.Class{class(strings.Repeat("x", 1<<20), slices.Repeat([]api.Range{span(0, 0x10ffff)}, 1<<20)...)}}
	for n := range 1 << 16 {
		if isScalar(api.Cell(n)) {
			big.Upper = append(big.Upper, pair(api.Cell(n), 0))
		}
	}
	if s, e := locale.Print(big); s != "" || e != api.ErrLong || !locale.Right(big) {
		t.Errorf("Print of much: %d", e)
	}
	big.Order = []api.Elem{{Name: "n", Cells: make([]api.Cell, 1<<20)}}
	if s, e := locale.Print(big); s != "" || e != api.ErrArg || locale.Right(big) {
		t.Errorf("Print of what is wrong: %d", e)
	}
}

func FuzzParse(f *testing.F) {
	for _, s := range []string{"", "class x <U0041>...<U0043>;<U0061>", wholeText, wholePrinted, "order <U0041>;<U0041>", "order <UD7FF>...<UE000>\norder<UE000>", "collating-element <x> from \"\xc3\xa9\xff\"\norder<x>;<x>"} {
		f.Add(s)
	}
	f.Fuzz(func(t *testing.T, s string) { check(t, s) })
}

func FuzzRight(f *testing.F) {
	f.Add("x", "ch", "ch", int32(0x41), int32(0x43), 0)
	f.Add("", "U0041", "\xc3\xa9", int32(-1), int32(0xd800), -1)
	f.Add("a b", "", "a\"", int32(0x110000), int32(0), 2)
	f.Fuzz(func(t *testing.T, name, other, text string, a, b int32, same int) {
		l := whole()
		l.Classes = append(l.Classes, class(name, span(api.Cell(a), api.Cell(b))))
		l.Upper = append(l.Upper, pair(api.Cell(b), api.Cell(a)))
		l.Order = append(l.Order, named(other, text, same), api.Elem{Name: name, Cells: append(cell.Of(text), api.Cell(a)), Same: 7}, single(api.Cell(b), 8))
		checkLocale(t, l)
		checkLocale(t, classes(class(name, span(api.Cell(a), api.Cell(b)))))
		checkLocale(t, order(named(other, text, 0)))
		checkLocale(t, order(single(api.Cell(a), 0), single(api.Cell(b), same)))
	})
}
