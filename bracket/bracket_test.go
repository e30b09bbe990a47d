package bracket_test

import (
	"math"
	"math/rand"
	"regexp"
	"slices"
	"strings"
	"testing"

	"redactor/api"
	"redactor/bracket"
	"redactor/cell"
)

// wholeText is a definition whose order is not that of the numbers, and in which b, y, ü and _ have no place.
const wholeText = `class vowel <U0061>;<U0065>...<U0069>;<U006F>
class a-Z_9 <U0041>
class over <U0062>;<U0061>...<U0063>;<U0062>
class ch <U0043>
toupper (<U0061>,<U0041>);(<U00E1>,<U00C1>);(<U017F>,<U0053>);(<U0131>,<U0049>);(<U0063>,<U0043>);(<U0068>,<U0048>)
tolower (<U0041>,<U0061>);(<U0049>,<U0069>);(<U0130>,<U0069>);(<U0053>,<U0073>);(<U0043>,<U0063>)
collating-element <ch> from "ch"
collating-element <Ch> from "Ch"
collating-element <l2> from "ll"
collating-element <z> from "xy"
collating-element <four> from "abcd"
collating-element <dash> from "-]"
collating-element <a-Z_9> from "é!"
collating-element <bytes> from "` + "\xff\xfe" + `"
order <U0061>
order <U0041>;<U0061>
order <U00E1>;<U0061>
order <U0064>
order <ch>
order <Ch>;<ch>
order <U0063>;<ch>
order <l2>
order <z>
order <four>;<U0064>
order <dash>
order <a-Z_9>
order <bytes>
order <U005B>
order <U002D>
order <U002E>
order <U005D>
order <U003D>
order <U003A>
order <U005E>
order <U0009>
order <U005C>
order <U10FFFF>
`

func TestExample(t *testing.T) {
	a := askPlain(t)
	s, behind, e, at := bracket.Parse(cell.Of("a-c[:digit:]]"), 0, a.table)
	want := api.Bracket{Ranges: []api.Range{span('a', 'a'), span('b', 'b'), span('c', 'c'), span(0x30, 0x39)}}
	if !same(s, want) || behind != 13 || e != api.OK || at != 0 {
		t.Errorf("%v, %d, %d, %d", s, behind, e, at)
	}
	s, behind, e, at = bracket.Parse(cell.Of("]^]"), 0, a.table)
	want = api.Bracket{Ranges: []api.Range{span(']', ']'), span('^', '^')}}
	if !same(s, want) || behind != 3 || e != api.OK || at != 0 {
		t.Errorf("%v, %d, %d, %d", s, behind, e, at)
	}
}

// reads expects what a bracket is, wherever it stands and whatever stands behind it.
func (a asking) reads(text, want string) {
	a.Helper()
	l := cell.Of(text)
	for _, ahead := range []string{"", "^", "[", "[^", "[:", "x]"} {
		for _, behind := range []string{"", "]", "-z]", "[", "[:", "x"} {
			whole := slices.Concat(cell.Of(ahead), l, cell.Of(behind))
			from := len(ahead)
			s, to, e, at := bracket.Parse(whole, from, a.table)
			if shown(s) != want || to != from+len(l) || e != api.OK || at != 0 {
				a.Errorf("Parse(%s, %d) = %q, %d, %d, %d, want %q", cell.Text(whole), from, shown(s), to, e, at, want)
			}
			a.expect(whole, from)
		}
	}
}

// refuses expects why cells are no bracket, and where, wherever they stand.
func (a asking) refuses(text string, err api.Errno, wrong int) {
	a.Helper()
	for _, ahead := range []string{"", "^", "[", "[:", "x]", "]]"} {
		whole := slices.Concat(cell.Of(ahead), cell.Of(text))
		from := len(ahead)
		s, to, e, at := bracket.Parse(whole, from, a.table)
		if !same(s, api.Bracket{}) || to != 0 || e != err || at != from+wrong {
			a.Errorf("Parse(%s, %d) = %q, %d, %d, %d, want %d, %d", cell.Text(whole), from, shown(s), to, e, at, err, from+wrong)
		}
		a.expect(whole, from)
	}
}

func TestCells(t *testing.T) {
	a := askPlain(t)
	for text, want := range map[string]string{
		"a]": "a", "ab]": "a b", "ba]": "b a", "aa]": "a a", "é]": `\u{e9}`, "\xffé\n\\]": `\xff \u{e9} \n \\`, "$*+?{}()|/]": "$ * + ? { } ( ) | /",
		// What ends a bracket is a cell as the first item.
		"]]": "]", "]a]": "] a", "]^]": "] ^", "]-]": "] -", "]:]": "] :", "][]": "] [", "][:digit:]]": "] 0..9",
		// Not stands at the beginning alone.
		"^a]": "not a", "^^]": "not ^", "a^]": "a ^", "^a^b]": "not a ^ b", "^]]": "not ]", "^]a]": "not ] a", "^-]": "not -", "^^^]": "not ^ ^", "^[]": "not [", "-^]": "- ^",
		// Signs of a bracket that open nothing.
		":]": ":", "=]": "=", ".]": ".", ":a:]": ": a :", "==]": "= =", "..]": ". .", "[]": "[", "[a]": "[ a", "[[]": "[ [", "a[]": "a [", "[^]": "[ ^", "[ :]": "[   :", "a:[]": "a : [",
	} {
		a.reads(text, want)
	}
}

func TestThrough(t *testing.T) {
	a := askPlain(t)
	for text, want := range map[string]string{
		"a-c]": "a b c", "a-a]": "a", "a-b]": "a b", "^a-c]": "not a b c", "a-cx-z]": "a b c x y z", "0-2-]": "0 1 2 -", "xa-b]": "x a b",
		// It is a cell at the beginning, at the end, and behind what is an item by itself.
		"-]": "-", "--]": "- -", "-a]": "- a", "a-]": "a -", "ab-]": "a b -", "^a-]": "not a -", "]-]": "] -", "a-b-c]": "a b - c", "a-b-]": "a b -", "[:digit:]-z]": "0..9 - z", "[=a=]-z]": "a - z", "[:digit:]-]": "0..9 -", "-[:digit:]]": "- 0..9", "-[=a=]]": "- a", "[=a=]-[:digit:]]": "a - 0..9",
		// It is an element at both sides of itself.
		"+--]": "+ , -", "--/]": "- . /", "---]": "-", "+--a]": "+ , - a", "+---]": "+ , - -", "--.-]": "- . -", "----]": "- -", "---a]": "- a", "+--[:digit:]]": "+ , - 0..9", "-----]": "- - -",
		// So are the other signs.
		"^-^]": "not - ^", "a^-`]": "a ^ _ `", "Z-^]": `Z [ \\ ] ^`, "]-^]": "] ^", "^]-^]": "not ] ^", "[-^]": `[ \\ ] ^`, ":-<]": ": ; <", "=-?]": "= > ?", ".-0]": ". / 0", ",-.]": ", - .", "9-:]": "9 :", "<-=]": "< =",
		// Behind it what opens a class is a cell, but what opens a name is none.
		"Z-[]": "Z [", "Z-[a]": "Z [ a", "Z-[:]": "Z [ :", "Z-[:a]": "Z [ : a", "Z-[:alpha:]": "Z [ : a l p h a :", "Z-[=]": "Z [ =", "Z-[=a=]": "Z [ = a =", "[-[:a]": "[ : a", "[-[=a]": "[ = a", "Z-[:-<]": "Z [ : ; <", "Z-[-]": "Z [ -", "Z-[[:digit:]]": "Z [ 0..9",
		"a-[.c.]]": "a b c", "a-[.c.]-]": "a b c -", "[.a.]-c]": "a b c", "[.a.]-[.c.]]": "a b c", "[.-.]-/]": "- . /", "+-[.-.]]": "+ , -", "[.].]-^]": "] ^", "Z-[.].]]": `Z [ \\ ]`, "[.[.]-]": "[ -", "[.a.]-]": "a -", "-[.a.]]": "- a", "[.+.]--]": "+ , -", "--[.-.]]": "-", "[.-.]--]": "-",
		// Cells of which one has no place are one range.
		"a-é]": `a..\u{e9}`, "é-ü]": `\u{e9}..\u{fc}`, "é-é]": `\u{e9}`, "\x00-é]": `\u{0}..\u{e9}`, "\xff-a]": `\xff..a`, "\xff-\x80]": `\xff..\x80`, "\xff-é]": `\xff..\u{e9}`, "\x7f-\u0080]": `\u{7f}..\u{80}`, "\xff-\U0010ffff]": `\xff..\u{10ffff}`, "[.a.]-é-z]": `a..\u{e9} - z`, "^-é]": `not - \u{e9}`, "--é]": `-..\u{e9}`,
	} {
		a.reads(text, want)
	}
}

// In an order of another kind places count, and not the numbers; what is between may have several cells.
func TestThroughAnOrder(t *testing.T) {
	a := askWhole(t)
	for text, want := range map[string]string{
		"a-d]": `a A \u{e1} d`, "á-c]": `\u{e1} d c =ch =Ch`, "d-c]": "d c =ch =Ch", "a-A]": "a A", "A-á]": `A \u{e1}`, "^d-c]": "not d c",
		"[.ch.]-c]": "c =ch =Ch", "d-[.ch.]]": "d =ch", "[.ch.]-[.ch.]]": "=ch", "[.ch.]-[.l2.]]": "c =ch =Ch =ll", "[.Ch.]-[.ll.]]": "c =Ch =ll", "[.z.]-[.xy.]]": "=xy", "c-[.z.]]": "c =ll =xy", "[.four.]-[.dash.]]": "=abcd =-]", "[.a-Z_9.]-[]": `[ =\u{e9}! =\xff\xfe`,
		"x[.ch.]-cy]": "x c y =ch =Ch", "[--]": "[ -", "]-:]": "] = :", "[-]": "[ -",
		// One of these has no place.
		"a-b]": "a..b", "a-ü]": `a..\u{fc}`, "b-d]": "b..d", "b-y]": "b..y", "b-b]": "b", "\xff-a]": `\xff..a`, "A-_]": "A.._", "z-z]": "z",
	} {
		a.reads(text, want)
	}
}

func TestClasses(t *testing.T) {
	plain, whole := askPlain(t), askWhole(t)
	for text, want := range map[string]string{
		"[:digit:]]": "0..9", "^[:digit:]]": "not 0..9", "[:alpha:]]": "A..Z a..z", "[:alnum:]_]": "0..9 A..Z a..z _", "[:space:][:digit:]]": `\u{9}..\u{d}   0..9`, "[:digit:][:digit:]]": "0..9 0..9", "x[:xdigit:]y]": "x 0..9 A..F a..f y", "[:digit:]:]": "0..9 :", "[:digit:]^]": "0..9 ^", "[[:digit:]]": "[ 0..9",
	} {
		plain.reads(text, want)
	}
	// Ranges are the class': neither sorted, nor joined, nor once alone.
	for text, want := range map[string]string{
		"[:vowel:]]": "a e..i o", "[:over:]]": "b a..c b", "[:a-Z_9:]]": "A", "[:over:]b[:over:]]": "b a..c b b b a..c b", "[:ch:][.ch.]]": "C =ch",
	} {
		whole.reads(text, want)
	}
	for text, at := range map[string]int{
		"[:none:]]": 0, "[::]]": 0, "a[:none:]]": 1, "^[:none:]]": 1, "^a-c[:none:]]": 4, "[:Digit:]]": 0, "[:digit :]]": 0, "[:digi:]]": 0, "[:digits:]]": 0, "[:dig]it:]]": 0, "[:[:]": 0, "[:^digit:]]": 0, "[:.:]]": 0, "[:é:]]": 0, "[:\xff:]]": 0, "[:\\:]]": 0, "[:digit:][:digi:]]": 9, "[:a:]]": 0, "[:ch:]]": 0, "[:digit\x00:]]": 0, "[:[.a.]:]]": 0, "[:=a=:]]": 0,
		// Nothing need be right behind it.
		"[:none:]": 0, "a[:none:]x[:nope:]": 1, "[:none:][.": 0, "[:none:]c-a": 0, "[::]": 0,
	} {
		plain.refuses(text, api.ErrName, at)
	}
	for text, at := range map[string]int{"[:four:]]": 0, "[:vowel:][:digit:]]": 9, "[:z:]]": 0} {
		whole.refuses(text, api.ErrName, at)
	}
}

func TestNames(t *testing.T) {
	plain, whole := askPlain(t), askWhole(t)
	for text, want := range map[string]string{
		"[.a.]]": "a", "^[.a.]]": "not a", "[.-.]]": "-", "[.].]]": "]", "[.[.]]": "[", "[.^.]]": "^", "[.:.]]": ":", "[.=.]]": "=", "[. .]]": " ", "[.\\.]]": `\\`, "[.\n.]]": `\n`, "[.\x00.]]": `\u{0}`, "[.\x7f.]]": `\u{7f}`, "x[.a.]y]": "x a y", "[.a.][.b.]]": "a b", "[.a.].]": "a .", "[[.a.]]": "[ a", "][.a.]]": "] a",
		"[=a=]]": "a", "^[=a=]]": "not a", "[=-=]]": "-", "[=]=]]": "]", "[=[=]]": "[", "[=^=]]": "^", "[=:=]]": ":", "[=.=]]": ".", "[=\\=]]": `\\`, "[=\n=]]": `\n`, "[=a=][=b=]]": "a b", "[=a=]=]": "a =", "[=a=]-]": "a -",
	} {
		plain.reads(text, want)
	}
	for text, want := range map[string]string{
		"[.ch.]]": "=ch", "[.l2.]]": "=ll", "[.ll.]]": "=ll", "[.four.]]": "=abcd", "[.abcd.]]": "=abcd", "[.dash.]]": "=-]", "[.-].]]": "=-]", "[.é!.]]": `=\u{e9}!`, "[.a-Z_9.]]": `=\u{e9}!`, "[.\xff\xfe.]]": `=\xff\xfe`, "[.bytes.]]": `=\xff\xfe`, "[.xy.]]": "=xy",
		// The element of that name counts ahead of the cell, and of the element with these cells.
		"[.z.]]": "=xy", "[=z=]]": "=xy", "z]": "z",
		// A cell may have no place; one that is shown in another way must have one.
		"[.b.]]": "b", "[=b=]]": "b", "[.á.]]": `\u{e1}`, "[.\t.]]": `\u{9}`, "[.\\.]]": `\\`, "[.\U0010ffff.]]": `\u{10ffff}`,
		// Texts stand behind one another, whatever stands between them, and not in what is not.
		"[.ch.]x[.ll.]]": "x =ch =ll", "[.ch.][.ch.]]": "=ch =ch", "^[.ch.]]": "not", "^a[.ch.]b]": "not a b", "^[.ch.]-c]": "not c", "^[=ch=]]": "not c",
		"[=a=]]": `a A \u{e1}`, "[=A=]]": `a A \u{e1}`, "[=á=]]": `a A \u{e1}`, "[=c=]]": "c =ch =Ch", "[=Ch=]]": "c =ch =Ch", "[=d=]]": "d =abcd", "[=four=]]": "d =abcd", "[=l2=]]": "=ll", "[=ll=]]": "=ll", "x[=d=][=d=]y]": "x d d y =abcd =abcd", "[=-]=]]": "=-]",
	} {
		whole.reads(text, want)
	}
	for text, at := range map[string]int{
		"[.ch.]]": 0, "[=ch=]]": 0, "a[.ch.]]": 1, "^[=ch=]]": 1, "[.é.]]": 0, "[=é=]]": 0, "[.\xff.]]": 0, "[=\xff=]]": 0, "[.\u0080.]]": 0, "[.aa.]]": 0, "[.a]b.]]": 0, "[. a.]]": 0, "[.[:.]]": 0, "[.\\\\.]]": 0, "[.digit.]]": 0, "[=digit=]]": 0, "[=[.a.]=]]": 0, "[.[=a=].]]": 0,
		"[.a.][.ch.]]": 5, "[=a=][=ch=]]": 5, "b[.a.]-[.ch.]]": 7, "[.ch.]-[.a.]]": 0, "[.ch.]-[.xx.]]": 0, "a-[.ch.]]": 2, "c-[.ch.]]": 2,
		"[.ch.]": 0, "[=ch=]x": 0, "[.ch.]-[.a": 0, "[.ch.][=": 0, "a-[.ch.]": 2,
	} {
		plain.refuses(text, api.ErrName, at)
	}
	for text, at := range map[string]int{"[.ü.]]": 0, "[=ü=]]": 0, "[.cH.]]": 0, "[.lll.]]": 0, "[.l.]-[.lll.]]": 6, "[.\n.]]": 0, "[.\x00.]]": 0, "[.\xff.]]": 0, "[.abc.]]": 0, "[.abcde.]]": 0, "[.vowel.]]": 0, "[.fou.]]": 0} {
		whole.refuses(text, api.ErrName, at)
	}
}

func TestErrForm(t *testing.T) {
	a := askPlain(t)
	for _, text := range []string{
		"", "^", "a", "]", "^]", "^^", "abc", "a-", "a-c", "-", "--", "[", "a[", "Z-[", "]-", "[.a.]", "[=a=]", "[:digit:]", "^[:digit:]", "[.a.]-", "[.a.]-c", "a-[.c.]", "]abc", "^]abc", "]-a-z", "Z-[:", "Z-[=",
		// Nothing ends the cells.
		"[:", "[=", "[.", "a[:", "[:]", "[:digit]", "[:digit]]", "[=]", "[=a]]", "[.]", "[.a]]", "[.]]", "[:=.]]", "[=:.]]", "[.:=]]", "a-[.", "a-[.]", "a-[.c]]", "a[:b-c]]]", "[:digit:][:digit]]",
		// What ends them is no end.
		"[:digit:", "[:digit:x]]", "[:digit:.]]", "[=a=", "[=a=x]]", "[=a=:]]", "[.a.", "[.a.x]]", "[.a.=]]", "[:x:digit:]]", "[=a=b=]]", "[.a.b.]]", "[::digit:]]", "[:digit::]]", "[=a==]]", "[.a..]]", "a-[.c.x]]", "a-[.c.", "[.ch.x]]", "[:none:x]]",
		// There are none.
		"[==]]", "[==]", "[==", "[..]]", "[..]", "[..", "[...]]", "[===]]", "a-[..]]", "[.a.]-[..]]", "[===", "[...", "[====]]", "[....]]",
		// They go ahead of what stands behind them.
		"[.a.x[:none:]]", "[:digit:x[.ch.]]", "[..][:none:]]", "[==]c-a]", "[:a[:none:", "[=a]c-a]",
	} {
		a.refuses(text, api.ErrForm, len(text))
	}
	for _, at := range []int{4, 5, 100, 1 << 40, math.MaxInt} {
		s, to, e, wrong := bracket.Parse(cell.Of("abc]"), at, a.table)
		if !same(s, api.Bracket{}) || to != 0 || e != api.ErrForm || wrong != 4 {
			t.Errorf("Parse at %d = %v, %d, %d, %d", at, s, to, e, wrong)
		}
	}
}

func TestErrRange(t *testing.T) {
	plain, whole := askPlain(t), askWhole(t)
	for text, at := range map[string]int{
		"c-a]": 1, "b-a]": 1, "^c-a]": 2, "xc-a]": 2, "a-cc-a]": 4, "[.c.]-a]": 5, "c-[.a.]]": 1, "[.c.]-[.a.]]": 5, "a--]": 1, "a-[:digit:]]": 1, "a-[=a=]]": 1, "a-[]": 1, "]-[]": 1, "a-.]": 1, "--+]": 1, "x-^]": 1, "a-\x00]": 1, "\x7f-~]": 1,
		// Of numbers, too.
		"é-a]": 1, "é-è]": 1, "a-\xff]": 1, "\x80-\xff]": 1, "é-\xff]": 1, "xé-a]": 2, "[.a.]-\xff]": 5, "é-[.a.]]": 1,
		// Nothing need be right behind it.
		"c-a": 1, "c-a[:none:]": 1, "c-ab-a": 1, "c-a[.": 1, "a-[": 1, "a-[:": 1,
	} {
		plain.refuses(text, api.ErrRange, at)
	}
	for text, at := range map[string]int{
		"d-a]": 1, "A-a]": 1, "c-d]": 1, "c-[.ch.]]": 1, "[.ch.]-a]": 6, "[.Ch.]-[.ch.]]": 6, "[.z.]-[.l2.]]": 5, "--[]": 1, "[.dash.]-[.four.]]": 8, "]--]": 1, ":-=]": 1,
		// One of these has no place: numbers count of single cells, and nothing is between others.
		"d-b]": 1, "ü-a]": 1, "_-A]": 1, "y-b]": 1, "a-\xff]": 1, "[.ch.]-y]": 6, "b-[.ch.]]": 1, "[.b.]-[.ch.]]": 5, "\xff-[.bytes.]]": 1, "[.four.]-z]": 8,
	} {
		whole.refuses(text, api.ErrRange, at)
	}
}

// A place below 0 is 0.
func TestPlaceBelowNought(t *testing.T) {
	a := askPlain(t)
	for _, at := range []int{-1, -2, -1000, math.MinInt} {
		s, to, e, wrong := bracket.Parse(cell.Of("^a-c]"), at, a.table)
		if shown(s) != "not a b c" || to != 5 || e != api.OK || wrong != 0 {
			t.Errorf("Parse at %d = %q, %d, %d, %d", at, shown(s), to, e, wrong)
		}
		if _, to, e, wrong := bracket.Parse(cell.Of("c-a]"), at, a.table); to != 0 || e != api.ErrRange || wrong != 1 {
			t.Errorf("Parse at %d: %d, %d, %d", at, to, e, wrong)
		}
		if _, to, e, wrong := bracket.Parse(nil, at, a.table); to != 0 || e != api.ErrForm || wrong != 0 {
			t.Errorf("Parse at %d: %d, %d, %d", at, to, e, wrong)
		}
	}
}

// Cells are taken as they are, also what is no CELL.
func TestNoCells(t *testing.T) {
	a := askPlain(t)
	wrong := []api.Cell{0xd800, 0xdfff, 0x110000, math.MaxInt32, -257, math.MinInt32}
	for _, c := range wrong {
		s, to, e, _ := bracket.Parse([]api.Cell{c, ']'}, 0, a.table)
		if !same(s, set("", span(c, c))) || to != 2 || e != api.OK {
			t.Errorf("Parse of %x = %v, %d, %d", c, s, to, e)
		}
		for _, other := range wrong {
			a.expect([]api.Cell{c, '-', other, ']'}, 0)
			a.expect([]api.Cell{'[', '.', c, other, '.', ']', ']'}, 0)
		}
		a.expect([]api.Cell{'[', '.', c, '.', ']', ']'}, 0)
		a.expect([]api.Cell{'[', '=', c, '=', ']', ']'}, 0)
		a.expect([]api.Cell{'[', ':', c, ':', ']', ']'}, 0)
	}
}

// eachText asks for all texts of so many signs.
func eachText(signs string, size int, ask func([]api.Cell)) {
	l := make([]api.Cell, size)
	var lay func(at int)
	lay = func(at int) {
		if at == size {
			ask(l)
			return
		}
		for _, c := range signs {
			l[at] = api.Cell(c)
			lay(at + 1)
		}
	}
	lay(0)
}

func TestAllSmallTexts(t *testing.T) {
	plain, whole := askPlain(t), askWhole(t)
	for size := range 6 {
		eachText("^-[]:=.ab", size, func(l []api.Cell) { plain.expect(l, 0) })
	}
	for size := range 6 {
		eachText("^-[].azü", size, func(l []api.Cell) { whole.expect(l, 0) })
	}
	small := ask(t, parsed(t, "class a <U0061>...<U007A>\ncollating-element <a> from \"]-\"\norder <a>\norder <U0061>;<a>"))
	eachText("^-[]:=.a", 6, func(l []api.Cell) { small.expect(l, 0) })
}

// someText is a text of what brackets are made of, mostly right.
func someText(r *rand.Rand) []api.Cell {
	items := []string{
		"a", "b", "A", "d", "z", "é", "á", "ü", "\xff", "\\", "\n", "^", "-", "[", ":", "=", ".", "]",
		"a-d", "-c", "-", "-", "a-ü", "b-y", "[.ch.]", "[.ch.]-", "-[.l2.]", "[.z.]", "[=d=]", "[=Ch=]", "[=b=]", "[:vowel:]", "[:over:]", "[.a.]", "[.-].]", "[.-.]-",
	}
	if r.Intn(4) == 0 {
		items = append(items, "c-a", "[:none:]", "[.nn.]", "[=nn=]", "[.", "[=", "[:", ":]", "=]", ".]", "[..]", "[::]", "-[:", "[.a.x", "[:digit:]")
	}
	var s strings.Builder
	for range r.Intn(8) {
		s.WriteString(items[r.Intn(len(items))])
	}
	if r.Intn(8) > 0 {
		s.WriteString("]")
	}
	return cell.Of(s.String())
}

func TestAnyText(t *testing.T) {
	plain, whole := askPlain(t), askWhole(t)
	r := rand.New(rand.NewSource(18))
	met := map[api.Errno]int{}
	for range 60000 {
		l := someText(r)
		at := r.Intn(len(l)+4) - 2
		met[plain.expect(l, at)]++
		met[whole.expect(l, at)]++
	}
	for _, e := range []api.Errno{api.OK, api.ErrForm, api.ErrName, api.ErrRange} {
		if met[e] < 3000 {
			t.Errorf("%d only %d times: too few to tell anything", e, met[e])
		}
	}
}

// Of the plain locale a bracket says what it says to the library's own patterns.
func TestAsInPatterns(t *testing.T) {
	a := askPlain(t)
	for _, text := range []string{
		"a]", "^a]", "abc]", "a-c]", "^a-c]", "a-cx-z0-9]", "a-]", "^a-]", "-a]", "[:alpha:]]", "^[:alpha:]]", "[:digit:]_]", "[:alnum:]]", "[:upper:]x-z]", "[:lower:][:digit:]]", "^[:space:]]", "[:blank:]]", "[:punct:]]", "[:print:]]", "^[:graph:]]", "[:cntrl:]]", "[:xdigit:]-]", "]]", "]a]", "^]]", "^]a-c]", "$.*+?]", "é]", "a-é]", "^é-ü]",
	} {
		pattern := regexp.MustCompile("^[" + text + "$")
		s, _, e, _ := bracket.Parse(cell.Of(text), 0, a.table)
		if e != api.OK {
			t.Errorf("Parse(%s): %d", text, e)
		}
		for c := range rune(0x400) {
			got := slices.Equal(bracket.Lengths(s, []api.Cell{api.Cell(c)}, 0, nil), []int{1})
			if want := pattern.MatchString(string(c)); got != want {
				t.Errorf("%x is taken by %s: %v, want %v", c, text, got, want)
			}
		}
	}
}
