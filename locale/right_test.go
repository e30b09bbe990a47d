package locale_test

import (
	"fmt"
	"slices"
	"strings"
	"testing"

	"redactor/api"
	"redactor/cell"
	"redactor/locale"
)

// whole has something of each thing that a locale may have.
func whole() api.Locale {
	return api.Locale{
		Classes: []api.Class{class("x", span(0x41, 0x43), span(0x61, 0x61)), class("y-2", span(0xd7ff, 0xe000))},
		Upper:   []api.Pair{pair(0x61, 0x41), pair(0x62, 0x42)},
		Lower:   []api.Pair{pair(0x41, 0x61)},
		Order:   []api.Elem{single(0x61, 0), named("ch", "ch", 1), single(0x41, 0), named("e-1", "\xffé", 3), named("CH", "Ch", 1), single(0x62, 5)},
	}
}

const wholePrinted = `class x <U0041> ... <U0043> ; <U0061>
class y-2 <UD7FF> ... <UE000>
toupper ( <U0061> , <U0041> ) ; ( <U0062> , <U0042> )
tolower ( <U0041> , <U0061> )
collating-element <ch> from "ch"
collating-element <e-1> from "` + "\xff" + `é"
collating-element <CH> from "Ch"
order <U0061>
order <ch>
order <U0041> ; <U0061>
order <e-1>
order <CH> ; <ch>
order <U0062>
`

// wrongCells are no SCALARS: escapes, lone halves, and what is no cell.
var wrongCells = []api.Cell{-1, -0x42, -256, -257, 0xd800, 0xdbff, 0xdc00, 0xdfff, 0x110000, 0x7fffffff, -0x80000000}

// edgeCells are the SCALARS next to those that are none.
var edgeCells = []api.Cell{0, 0xd7ff, 0xe000, 0xffff, 0x10000, 0x10ffff}

func TestWhole(t *testing.T) {
	expectRight(t, "the whole", whole())
	expectPrint(t, whole(), wholePrinted)
	expect(t, wholePrinted, whole())
}

// wordNames are names, and whether they are signs of a Word, one at least.
var wordNames = map[string]bool{
	"a": true, "Z": true, "9": true, "-": true, "_": true, "class": true, "a-b_C9": true, "--__": true, "U0041": true, "Uabcd": true, "UFFFFFF": true,
	"abcdefghijklmnopqrstuvwxyzABCDEFGHIJKLMNOPQRSTUVWXYZ0123456789-_": true,
	"": false, " ": false, "a b": false, " a": false, "a ": false, "a\n": false, "\na": false, "a\x00": false, "a.b": false, "é": false, "aé": false, "\xff": false, "a\xffb": false, "<a>": false, "a;": false, "a,b": false, "(a": false, "...": false, "\"a\"": false, "%": false, "a+b": false, "a/b": false, "a\u00a0": false, "ａ": false, "٠": false,
}

func TestRightNamesOfClasses(t *testing.T) {
	for name, is := range wordNames {
		l := whole()
		l.Classes[1].Name = name
		if is {
			expectRight(t, fmt.Sprintf("a class of name %q", name), l)
		} else {
			expectWrong(t, fmt.Sprintf("a class of name %q", name), l)
		}
	}
	l := whole()
	l.Classes[1].Name = "x"
	expectWrong(t, "two classes of one name", l)
	l.Classes[1].Name = "X"
	expectRight(t, "two classes of names that are not quite alike", l)
	l.Classes[1].Name = "ch"
	expectRight(t, "a class with the name of an element", l)
	expectWrong(t, "two of three classes of one name", classes(class("a", span(1, 1)), class("b", span(1, 1)), class("a", span(2, 2))))
}

func TestRightRanges(t *testing.T) {
	for _, none := range [][]api.Range{nil, {}} {
		l := whole()
		l.Classes[1].Ranges = none
		expectWrong(t, "a class of no Ranges", l)
		l = whole()
		l.Classes[0].Ranges = none
		expectWrong(t, "a first class of no Ranges", l)
	}
	set := func(r api.Range) api.Locale {
		l := whole()
		l.Classes[0].Ranges[1] = r
		return l
	}
	expectRight(t, "a Range of one", set(span(0x41, 0x41)))
	expectRight(t, "a Range that is there already", set(span(0x41, 0x43)))
	expectRight(t, "a Range of all", set(span(0, 0x10ffff)))
	expectWrong(t, "High is less by one", set(span(0x42, 0x41)))
	expectWrong(t, "High is less", set(span(0x10ffff, 0)))
	for _, c := range wrongCells {
		expectWrong(t, "Low is no scalar", set(span(c, 0x10ffff)))
		expectWrong(t, "High is no scalar", set(span(0, c)))
		expectWrong(t, "both are no scalars", set(span(c, c)))
	}
	for _, c := range edgeCells {
		expectRight(t, "Low is at an edge", set(span(c, 0x10ffff)))
		expectRight(t, "High is at an edge", set(span(0, c)))
	}
}

func TestRightPairs(t *testing.T) {
	for _, of := range []func(l *api.Locale) *[]api.Pair{
		func(l *api.Locale) *[]api.Pair { return &l.Upper },
		func(l *api.Locale) *[]api.Pair { return &l.Lower },
	} {
		set := func(pairs ...api.Pair) api.Locale {
			l := whole()
			*of(&l) = pairs
			return l
		}
		expectRight(t, "no pairs", set())
		expectRight(t, "a pair of the same", set(pair(0x61, 0x61)))
		expectRight(t, "two of one To", set(pair(0x61, 0x41), pair(0x62, 0x41)))
		expectRight(t, "a From that is a To", set(pair(0x61, 0x41), pair(0x41, 0x61)))
		expectWrong(t, "two of one From", set(pair(0x61, 0x41), pair(0x61, 0x42)))
		expectWrong(t, "two that are the same", set(pair(0x61, 0x41), pair(0x61, 0x41)))
		expectWrong(t, "two of one From, not side by side", set(pair(0x61, 0x41), pair(0x62, 0x42), pair(0x61, 0x42)))
		for _, c := range wrongCells {
			expectWrong(t, "From is no scalar", set(pair(0x61, 0x41), pair(c, 0x41)))
			expectWrong(t, "To is no scalar", set(pair(0x61, c), pair(0x62, 0x42)))
		}
		for _, c := range edgeCells {
			expectRight(t, "From is at an edge", set(pair(c, 0x41)))
			expectRight(t, "To is at an edge", set(pair(0x61, c)))
		}
	}
}

func TestRightSingles(t *testing.T) {
	set := func(e api.Elem) api.Locale {
		l := whole()
		e.Same = 5
		l.Order[5] = e
		return l
	}
	for _, c := range wrongCells {
		expectWrong(t, "one cell that is no scalar", set(single(c, 0)))
		expectWrong(t, "one cell that is no scalar, with a name", set(api.Elem{Name: "n", Cells: []api.Cell{c}}))
	}
	for _, c := range append([]api.Cell{'"', '\n', '|', '\\', 0xfffd}, edgeCells...) {
		expectRight(t, "one scalar", set(single(c, 0)))
		expectWrong(t, "one scalar with a name", set(api.Elem{Name: "n", Cells: []api.Cell{c}}))
	}
	expectWrong(t, "a scalar that is there already", set(single(0x61, 0)))
	expectWrong(t, "one scalar, a name that is none", set(api.Elem{Name: " ", Cells: []api.Cell{0x62}}))
	expectWrong(t, "one scalar, its own name", set(api.Elem{Name: "U0062", Cells: []api.Cell{0x62}}))
}

func TestRightElements(t *testing.T) {
	set := func(name string, cells ...api.Cell) api.Locale {
		l := whole()
		l.Order[5] = api.Elem{Name: name, Cells: cells, Same: 5}
		return l
	}
	const ff, c3, a9 = api.Cell(-256), api.Cell(-1 - 0xc3), api.Cell(-1 - 0xa9)
	for _, cells := range [][]api.Cell{
		{'a', 'b'}, {'a', 'b', 'c'}, {'a', 'b', 'c', 'd'}, {'a', 'a', 'a', 'a'}, {'|', '|'}, {'\\', 'n'}, {'\\', '\\'}, {0, 0}, {'\t', '\r'}, {'\'', '`'}, {0xe9, 0x20ac, 0x1f600, 0x10ffff}, {0xd7ff, 0xe000}, {0xfffd, 0xfffd},
		{ff, ff}, {'a', ff}, {ff, 'a'}, {c3, c3}, {c3, 'a', a9}, {a9, c3}, {c3, 0xe9}, {-1 - 0xed, -1 - 0xa0, -1 - 0x80}, {-1 - 0x80, -1 - 0xbf}, {-1 - 0xf0, -1 - 0x9f, -1 - 0x98},
	} {
		expectRight(t, "cells of a text", set("n", cells...))
		expectWrong(t, "no name", set("", cells...))
	}
	for _, cells := range [][]api.Cell{
		nil, {}, {'a'}, {0xe9}, {'a', 'b', 'c', 'd', 'e'}, {0xe9, 0xe9, 0xe9, 0xe9, 0xe9}, {ff, ff, ff, ff, ff}, slices.Repeat([]api.Cell{'a'}, 1000),
		{'"', 'a'}, {'a', '"'}, {'a', 'b', 'c', '"'}, {'"', '"'}, {'a', '\n'}, {'\n', 'a'}, {'a', '\n', 'b'}, {'"', '\n'},
		// Of no text: escapes that together are a scalar, or of bytes that are one by themselves.
		{c3, a9}, {'a', c3, a9}, {c3, a9, 'a'}, {c3, c3, a9}, {-1 - 0xf0, -1 - 0x9f, -1 - 0x98, -1 - 0x80}, {-1 - 0xe2, -1 - 0x82, -1 - 0xac}, {'a', -1 - 0x61}, {-1, -1}, {ff, -1 - 0x7f}, {-1 - 0x22, 'a'}, {-1 - 0x0a, 'a'},
	} {
		expectWrong(t, "cells that no text has", set("n", cells...))
	}
	for _, c := range wrongCells {
		// This one is the escape of a byte that no scalar has.
		if c == ff {
			continue
		}
		expectWrong(t, "a first cell that is none", set("n", c, 'a'))
		expectWrong(t, "a last cell that is none", set("n", 'a', 'b', 'c', c))
	}
	expectWrong(t, "cells that are there already", set("n", 'c', 'h'))
	expectWrong(t, "a name that is there already", set("ch", 'a', 'b'))
	expectWrong(t, "both are there already", set("ch", 'c', 'h'))
	expectRight(t, "cells and a name that are not quite alike", set("cH", 'c', 'H'))
	expectRight(t, "cells that begin like others", set("chs", 'c', 'h', 's'))
	expectRight(t, "the name of a class", set("x", 'a', 'b'))
	expectWrong(t, "scalars that are there already", order(single(1, 0), single(2, 1), single(1, 2)))
	// What may not be told apart by a text to be looked at is told apart by its cells.
	expectRight(t, "cells that are shown alike", order(named("a", "\\n", 0), named("b", "\\x", 1), named("c", "\xffa", 2), named("d", "\\xff", 3)))
}

func TestRightNamesOfElements(t *testing.T) {
	names := map[string]bool{
		// What would be read as a scalar is no name, whether there is such a scalar or not.
		"U": true, "U0": true, "U00": true, "U041": true, "U0000041": true, "U00000041": true, "U004G": true, "Ug041": true, "U-041": true, "U0_41": true, "u0041": true, "uD800": true, "UU0041": true, "U0041-": true, "xU0041": true, "0041": true,
		"U0041": false, "U00041": false, "U000041": false, "Uabcd": false, "UABCD": false, "UaBcD": false, "UD800": false, "UDFFFF": false, "U110000": false, "UFFFFFF": false, "Uffffff": false, "U0000": false, "U9999": false, "U10FFFF": false, "U123456": false,
	}
	for name, is := range wordNames {
		if _, there := names[name]; !there && name != "UFFFFFF" {
			names[name] = is
		}
	}
	for name, is := range names {
		l := whole()
		l.Order[3].Name = name
		if is {
			expectRight(t, fmt.Sprintf("an element of name %q", name), l)
		} else {
			expectWrong(t, fmt.Sprintf("an element of name %q", name), l)
		}
	}
}

func TestRightSame(t *testing.T) {
	for n := range 6 {
		for same := -2; same < 8; same++ {
			l := whole()
			l.Order[n].Same = same
			checkLocale(t, l)
		}
	}
	set := func(l ...int) api.Locale {
		var elems []api.Elem
		for i, same := range l {
			elems = append(elems, single(api.Cell(i), same))
		}
		return order(elems...)
	}
	for _, l := range [][]int{{}, {0}, {0, 1, 2}, {0, 0, 0}, {0, 0, 2, 2, 0}, {0, 1, 1, 0, 1}} {
		expectRight(t, "Same", set(l...))
	}
	for _, l := range [][]int{{1}, {-1}, {1, 1}, {0, 2, 2}, {0, 2}, {0, -1}, {0, 0, 1}, {0, 1, 1, 2}, {1, 0}, {0, 2, 1}, {0, 1, 3}, {-0x80000000}, {0x7fffffff}, {-1 << 63}, {1<<63 - 1}, {0, 1, 2, -3}} {
		expectWrong(t, "Same", set(l...))
	}
}

func TestRightHowMany(t *testing.T) {
	expectRight(t, "500 elements", order(elemsFrom(0x1000, 500, 0)...))
	expectWrong(t, "501 elements", order(elemsFrom(0x1000, 501, 0)...))
	expectWrong(t, "1000 elements", order(elemsFrom(0x1000, 1000, 0)...))
	last := append(elemsFrom(0x1000, 499, 0), named("ch", "ch", 0))
	expectRight(t, "500 elements, the last of several cells", order(last...))
	expectWrong(t, "501 elements, the last of several cells", order(append(elemsFrom(0x1000, 500, 0), named("ch", "ch", 0))...))
	// Of the other things there may be as many as one likes.
	var many api.Locale
	for n := range 2000 {
		c := api.Cell(n)
		many.Classes = append(many.Classes, class(fmt.Sprint("c", n), span(c, c)))
		many.Upper = append(many.Upper, pair(c, c))
		many.Lower = append(many.Lower, pair(c, c))
	}
	many.Classes[0].Ranges = slices.Repeat([]api.Range{span(0, 1)}, 5000)
	many.Classes[1].Name = strings.Repeat("x", 100000)
	expectRight(t, "many of all", many)
	many.Classes[1999].Name = "c0"
	expectWrong(t, "many of all, the last class twice", many)
}

func TestPrint(t *testing.T) {
	expectPrint(t, classes(class("a", span(0x41, 0x41))), "class a <U0041>\n")
	expectPrint(t, classes(class("a", span(0x41, 0x42))), "class a <U0041> ... <U0042>\n")
	expectPrint(t, classes(class("b", span(0, 0), span(0, 0xffff)), class("a", span(0x10000, 0x10ffff), span(0xabcde, 0xabcde))), "class b <U0000> ; <U0000> ... <UFFFF>\nclass a <U10000> ... <U10FFFF> ; <UABCDE>\n")
	expectPrint(t, api.Locale{Upper: []api.Pair{pair(0xe9, 0xc9)}}, "toupper ( <U00E9> , <U00C9> )\n")
	expectPrint(t, api.Locale{Lower: []api.Pair{pair(0xc9, 0xe9), pair(0x41, 0x61)}}, "tolower ( <U00C9> , <U00E9> ) ; ( <U0041> , <U0061> )\n")
	expectPrint(t, order(single(0x10ffff, 0)), "order <U10FFFF>\n")
	expectPrint(t, order(single('"', 0), single('\n', 0)), "order <U0022>\norder <U000A> ; <U0022>\n")
	expectPrint(t, order(named("ch", "ch", 0)), "collating-element <ch> from \"ch\"\norder <ch>\n")
	expectPrint(t, order(named("a", "  ", 0), single(0x20, 0), named("b", "%\xff\x00\\", 0), single(0x21, 3)), "collating-element <a> from \"  \"\ncollating-element <b> from \"%\xff\x00\\\"\norder <a>\norder <U0020> ; <a>\norder <b> ; <a>\norder <U0021>\n")
	expectPrint(t, order(named("U", "|/", 0), named("u0041", "é\xc3", 1)), "collating-element <U> from \"|/\"\ncollating-element <u0041> from \"é\xc3\"\norder <U>\norder <u0041>\n")
	// Elements that follow one another are printed one by one, as they are in the order.
	expectPrint(t, order(singles(0x61, 0x63)...), "order <U0061>\norder <U0062>\norder <U0063>\n")
}

// expectSize says that a locale is printed with so many bytes, or refused, if that are too many.
func expectSize(t *testing.T, l api.Locale, size int) {
	t.Helper()
	s, e := locale.Print(l)
	if size <= 4000 && (len(s) != size || e != api.OK) || size > 4000 && (s != "" || e != api.ErrLong) {
		t.Errorf("Print of what has %d bytes: %d, %d", size, len(s), e)
	}
	checkLocale(t, l)
}

func TestPrintHowMuch(t *testing.T) {
	for more := range 10 {
		// Each kind of line may be the one that is too long.
		expectSize(t, classes(class(strings.Repeat("x", 3980+more), span(0x41, 0x41))), 3995+more)
		name := strings.Repeat("n", 1977+more/2)
		expectSize(t, order(named(name, "ch"+strings.Repeat("s", more%2), 0)), 40+2*len(name)+more%2)
		pairs := api.Locale{Classes: classes(class(strings.Repeat("x", 10+more), span(1, 1))).Classes}
		for n := range 165 {
			pairs.Upper = append(pairs.Upper, pair(api.Cell(n), 0))
		}
		expectSize(t, pairs, 15+10+more+6+24*165)
		elems := order(elemsFrom(0x1000, 284, 0)...)
		elems.Classes = classes(class(strings.Repeat("x", more), span(1, 1))).Classes
		if more > 0 {
			expectSize(t, elems, 15+more+284*14)
		}
	}
	elems := order(elemsFrom(0x1000, 285, 0)...)
	expectSize(t, elems, 285*14)
	elems.Order = elemsFrom(0x1000, 286, 0)
	expectSize(t, elems, 286*14)
	elems.Order[285] = single(0x1000+285, 4)
	expectSize(t, elems, 286*14+10)
	expectSize(t, order(elemsFrom(0x1000, 500, 0)...), 7000)
	expectSize(t, classes(class("x", slices.Repeat([]api.Range{span(1, 2)}, 100000)...)), 2200000)
	expectSize(t, classes(class(strings.Repeat("x", 1000000), span(1, 2))), 1000028)
}

// The most tokens that 4000 bytes have room for are 999.
func TestPrintManyTokens(t *testing.T) {
	var l api.Locale
	for n := range 8 {
		l.Classes = append(l.Classes, class(string("abcdefghi"[n]), span(1, 1)))
	}
	for n := range 161 {
		l.Upper = append(l.Upper, pair(api.Cell(n), 1))
	}
	expectSize(t, l, 3998)
	for _, word := range []string{"i", "ii", "iii"} {
		more := l
		more.Classes = append(slices.Clone(l.Classes), class(word, span(1, 1)))
		expectSize(t, more, 3998+15+len(word))
	}
	l.Lower = []api.Pair{pair(1, 1)}
	expectSize(t, l, 3998+30)
}

// What is wrong is refused ahead of what is too long.
func TestPrintWhichErrorIsTold(t *testing.T) {
	l := classes(class(strings.Repeat("x", 5000), span(1, 1)))
	l.Upper = []api.Pair{pair(1, 0xd800)}
	expectWrong(t, "long", l)
	expectWrong(t, "long", order(elemsFrom(0, 501, 0)...))
	expectWrong(t, "long", classes(class(strings.Repeat("x", 5000)+" ", span(1, 1))))
}

// There and back: what Parse tells of lines that are printed is the same, and is printed in the same way.
func TestThereAndBack(t *testing.T) {
	for _, l := range []api.Locale{{}, whole(), order(singles(0, 0x7f)...), order(named("a", "\\n", 0), named("b", "\\x", 1), named("c", "\xffa", 1))} {
		s, e := locale.Print(l)
		back, f, _ := locale.Parse(s)
		again, g := locale.Print(back)
		if e != api.OK || f != api.OK || g != api.OK || !equal(back, l) || s != again {
			t.Errorf("%v comes back as %v", l, back)
		}
	}
	// Of what a definition may say in several ways one is printed.
	l, _, _ := locale.Parse("order <U0061>...<U0062>%x\nclass x <U0041>...<U0041>;<U00041>\n\ncollating-element <no> from \"no\"\ncollating-element <a> from \"xy\"\ncollating-element <b> from \"xy\"\ntolower (<U0041>,<U0061>)\norder <a>\norder <U0063>;<b>\ntolower(<U0042>,<U0062>)\norder <U0064>;<U0063>")
	expectPrint(t, l, "class x <U0041> ; <U0041>\ntolower ( <U0041> , <U0061> ) ; ( <U0042> , <U0062> )\ncollating-element <a> from \"xy\"\norder <U0061>\norder <U0062>\norder <a>\norder <U0063> ; <a>\norder <U0064> ; <a>\n")
}

// Elements of all rows of cells and bytes up to some length, as Right and as definitions tell of them.
func TestEveryElement(t *testing.T) {
	some := []api.Cell{'a', '"', '\n', '|', 0xe9, 0xfffd, 0xd800, 0x10ffff, -1 - 0xc3, -1 - 0xa9, -1 - 0x61, -256, -257}
	var grow func(l []api.Cell)
	grow = func(l []api.Cell) {
		checkLocale(t, order(api.Elem{Name: "n", Cells: l}))
		for i := 0; i < len(some) && len(l) < 5; i++ {
			if len(l) < 3 || i%3 == 0 {
				grow(append(slices.Clone(l), some[i]))
			}
		}
	}
	grow(nil)
	rows([]string{"a", "\xc3", "\xa9", "é", "\xff", "%", "\\"}, 5, func(s string) {
		s = strings.ReplaceAll(s, " ", "")
		if n := len(cell.Of(s)); n >= 2 && n <= 4 {
			expect(t, element(s), order(named("x", s, 0)))
		} else {
			expectError(t, element(s), api.ErrLong, 27)
		}
	})
}
