package collate_test

import (
	"slices"
	"strings"
	"testing"

	"redactor/api"
	"redactor/cell"
	"redactor/collate"
	"redactor/locale"
)

func class(name string, l ...api.Range) api.Class { return api.Class{Name: name, Ranges: l} }

func span(low, high api.Cell) api.Range { return api.Range{Low: low, High: high} }

func pair(from, to api.Cell) api.Pair { return api.Pair{From: from, To: to} }

// single is an element of one scalar.
func single(c api.Cell, same int) api.Elem { return api.Elem{Cells: []api.Cell{c}, Same: same} }

func named(name, text string, same int) api.Elem {
	return api.Elem{Name: name, Cells: cell.Of(text), Same: same}
}

func order(l ...api.Elem) api.Locale { return api.Locale{Order: l} }

// rowsOf are the cells of each word of a text.
func rowsOf(s string) [][]api.Cell {
	var l [][]api.Cell
	for word := range strings.FieldsSeq(s) {
		l = append(l, cell.Of(word))
	}
	return l
}

// wholeText is a definition that has all that a table may be asked of.
const wholeText = `class vowel <U0061>;<U0065>...<U0069>;<U006F>
class a-Z_9 <U0041>
class over <U0062>;<U0061>...<U0063>;<U0062>
class gap <UD7FF>...<UE000>
class all <U0000>...<U10FFFF>
toupper (<U0063>,<U0043>);(<U0061>,<U0041>);(<U00E1>,<U00C1>);(<U0131>,<U0049>);(<U017F>,<U0053>)
toupper (<U0010>,<U0003>);(<U0002>,<U0005>);(<U1F600>,<U1F600>)
tolower (<U0041>,<U0061>);(<U0043>,<U0063>);(<U0049>,<U0069>);(<U0130>,<U0069>);(<U0053>,<U0073>)
tolower (<U0010>,<U0002>);(<U0003>,<U0004>)
collating-element <ch> from "ch"
collating-element <Ch> from "Ch"
collating-element <a> from "xy"
collating-element <four> from "abcd"
collating-element <U041> from "\u"
collating-element <e> from "ée"
order <U0061>
order <U0041>;<U0061>
order <U007A>
order <U0062>...<U0063>
order <ch>
order <U00E1>;<U0041>
order <Ch>;<ch>
order <a>
order <U0078>;<U00E1>
order <four>
order <U041>;<four>
order <U000A>
order <U0022>;<ch>
order <e>
`

func TestExample(t *testing.T) {
	table := tableOf(t, collate.Plain())
	rows, e := table.Between([]api.Cell{'a'}, []api.Cell{'c'})
	if !sameRows(rows, rowsOf("a b c")) || e != api.OK {
		t.Errorf("Between a and c = %v, %d", rows, e)
	}
	if l := table.Fold('a'); !slices.Equal(l, []api.Cell{'A', 'a'}) {
		t.Errorf("Fold of a = %v", l)
	}
	if n := table.Rank([]api.Cell{0xe9}); n != -1 {
		t.Errorf("Rank of e9 = %d", n)
	}
}

func TestPlain(t *testing.T) {
	want := api.Locale{Classes: []api.Class{
		class("upper", span(0x41, 0x5a)),
		class("lower", span(0x61, 0x7a)),
		class("alpha", span(0x41, 0x5a), span(0x61, 0x7a)),
		class("digit", span(0x30, 0x39)),
		class("alnum", span(0x30, 0x39), span(0x41, 0x5a), span(0x61, 0x7a)),
		class("space", span(0x9, 0xd), span(0x20, 0x20)),
		class("blank", span(0x9, 0x9), span(0x20, 0x20)),
		class("punct", span(0x21, 0x2f), span(0x3a, 0x40), span(0x5b, 0x60), span(0x7b, 0x7e)),
		class("print", span(0x20, 0x7e)),
		class("graph", span(0x21, 0x7e)),
		class("cntrl", span(0x0, 0x1f), span(0x7f, 0x7f)),
		class("xdigit", span(0x30, 0x39), span(0x41, 0x46), span(0x61, 0x66)),
	}}
	for c := api.Cell(0x61); c <= 0x7a; c++ {
		want.Upper = append(want.Upper, pair(c, c-0x20))
		want.Lower = append(want.Lower, pair(c-0x20, c))
	}
	for n := 0; n <= 0x7f; n++ {
		want.Order = append(want.Order, single(api.Cell(n), n))
	}
	if got := collate.Plain(); !equal(got, want) || !locale.Right(got) {
		t.Errorf("Plain() = %v, want %v", got, want)
	}
}

// Of each cell Plain's classes say what C's calls of these names say in the POSIX locale.
func TestPlainClasses(t *testing.T) {
	table := tableOf(t, collate.Plain())
	for c := api.Cell(-300); c < 0x300; c++ {
		is := func(signs string) bool { return c > 0 && c < 0x80 && strings.ContainsRune(signs, rune(c)) }
		upper, lower, digit := is("ABCDEFGHIJKLMNOPQRSTUVWXYZ"), is("abcdefghijklmnopqrstuvwxyz"), is("0123456789")
		punct := is("!\"#$%&'()*+,-./:;<=>?@[\\]^_`{|}~")
		for name, want := range map[string]bool{
			"upper": upper, "lower": lower, "alpha": upper || lower, "digit": digit, "alnum": upper || lower || digit,
			"space": is(" \t\n\v\f\r"), "blank": is(" \t"), "punct": punct, "graph": upper || lower || digit || punct,
			"print": upper || lower || digit || punct || c == ' ', "cntrl": c >= 0 && c < ' ' || c == 0x7f, "xdigit": digit || is("abcdefABCDEF"),
			"Upper": false, "": false, "word": false,
		} {
			if got := table.Is(name, c); got != want {
				t.Errorf("Is(%s, %x) = %v", name, c, got)
			}
		}
	}
}

// New is nil just where locale.Right says no.
func TestNew(t *testing.T) {
	for why, l := range map[string]api.Locale{
		"a class without ranges":  {Classes: []api.Class{class("x")}},
		"a class without a name":  {Classes: []api.Class{class("", span(1, 2))}},
		"a name twice":            {Classes: []api.Class{class("x", span(1, 2)), class("x", span(3, 4))}},
		"a range down":            {Classes: []api.Class{class("x", span(2, 1))}},
		"a range of an escape":    {Classes: []api.Class{class("x", span(-1, 1))}},
		"a pair twice":            {Upper: []api.Pair{pair('a', 'A'), pair('a', 'B')}},
		"a small one twice":       {Lower: []api.Pair{pair('A', 'a'), pair('A', 'b')}},
		"a pair to a surrogate":   {Upper: []api.Pair{pair('a', 0xd800)}},
		"a pair of an escape":     {Lower: []api.Pair{pair(-1, 'a')}},
		"a pair above all":        {Lower: []api.Pair{pair('a', 0x110000)}},
		"an element twice":        order(single('a', 0), single('a', 1)),
		"a name of two":           order(named("n", "ab", 0), named("n", "cd", 1)),
		"an element of nothing":   order(api.Elem{Name: "n"}),
		"one scalar with a name":  order(named("n", "a", 0)),
		"two without a name":      order(named("", "ab", 0)),
		"five cells":              order(named("n", "abcde", 0)),
		"as good as one behind":   order(single('a', 1), single('b', 1)),
		"as good as none":         order(single('a', -1)),
		"as good as another's":    order(single('a', 0), single('b', 0), single('c', 1)),
		"a stroke":                order(named("n", "a\"", 0)),
		"a name like a scalar":    order(named("U0041", "ab", 0)),
		"more than 500 elements":  order(manyElems(501)...),
		"the last of many things": {Classes: collate.Plain().Classes, Order: order(append(collate.Plain().Order, single('a', 128))...).Order},
	} {
		if collate.New(l) != nil || locale.Right(l) {
			t.Errorf("a table of what is wrong: %s", why)
		}
	}
	for _, l := range []api.Locale{{}, collate.Plain(), parsed(t, wholeText), order(manyElems(500)...)} {
		ask(t, l).askAll()
	}
}

// manyElems are so many elements, each third one of two cells, each fifth one as good as the first.
func manyElems(n int) []api.Elem {
	var l []api.Elem
	for at := range n {
		e := single(api.Cell(0x100+at), at)
		if at%3 == 1 {
			e = named("n"+cell.Text(e.Cells)[3:6], string(rune(0x100+at))+"x", at)
		}
		if at%5 == 4 {
			e.Same = 0
		}
		l = append(l, e)
	}
	return l
}

func TestClass(t *testing.T) {
	table := tableOf(t, parsed(t, wholeText))
	for name, want := range map[string][]api.Range{
		"vowel": {span('a', 'a'), span('e', 'i'), span('o', 'o')},
		"a-Z_9": {span('A', 'A')},
		// Ranges are the definition's: neither sorted, nor joined, nor once alone.
		"over": {span('b', 'b'), span('a', 'c'), span('b', 'b')},
		"gap":  {span(0xd7ff, 0xe000)},
		"all":  {span(0, 0x10ffff)},
	} {
		if l, is := table.Class(name); !slices.Equal(l, want) || !is {
			t.Errorf("Class(%s) = %v, %v", name, l, is)
		}
	}
	for _, name := range []string{"", "Vowel", "vowel ", "vowe", "vowels", "class", "alpha", "ch", "A-z_9", "\x00", "\xff", strings.Repeat("vowel", 10000)} {
		if l, is := table.Class(name); len(l) != 0 || is {
			t.Errorf("Class(%.20q) = %v, %v", name, l, is)
		}
		if table.Is(name, 'a') {
			t.Errorf("Is(%.20q, a)", name)
		}
	}
}

func TestIs(t *testing.T) {
	table := tableOf(t, parsed(t, wholeText))
	for name, cells := range map[string][2][]api.Cell{
		"vowel": {{'a', 'e', 'f', 'g', 'h', 'i', 'o'}, {'`', 'b', 'd', 'j', 'n', 'p', 'A', 'E', 0xe9, 0, -1, -98, 0x10061}},
		"a-Z_9": {{'A'}, {'a', '@', 'B', -66}},
		"over":  {{'a', 'b', 'c'}, {'`', 'd', 'B'}},
		// What stands between two scalars is told by the numbers alone.
		"gap": {{0xd7ff, 0xd800, 0xdfff, 0xe000}, {0xd7fe, 0xe001, 0x1d7ff}},
		"all": {{0, 1, 'a', 0xffff, 0x10000, 0x10ffff}, {-1, -256, -257, 0x110000, 1<<31 - 1, -1 << 31}},
	} {
		for i, l := range cells {
			for _, c := range l {
				if got := table.Is(name, c); got != (i == 0) {
					t.Errorf("Is(%s, %x) = %v", name, c, got)
				}
			}
		}
	}
}

func TestUpperAndLower(t *testing.T) {
	table := tableOf(t, parsed(t, wholeText))
	for _, x := range []struct{ c, upper, lower api.Cell }{
		{'a', 'A', 'a'}, {'A', 'A', 'a'}, {'c', 'C', 'c'}, {'b', 'b', 'b'}, {'B', 'B', 'B'},
		// Pairs have one direction each: what becomes á does not lead back.
		{0xe1, 0xc1, 0xe1}, {0xc1, 0xc1, 0xc1},
		{0x131, 'I', 0x131}, {0x130, 0x130, 'i'}, {'I', 'I', 'i'}, {'i', 'i', 'i'},
		{0x17f, 'S', 0x17f}, {'s', 's', 's'}, {'S', 'S', 's'},
		{0x10, 3, 2}, {2, 5, 2}, {3, 3, 4}, {4, 4, 4}, {5, 5, 5}, {0x1f600, 0x1f600, 0x1f600},
		{-1, -1, -1}, {-98, -98, -98}, {-256, -256, -256}, {-257, -257, -257}, {0xd800, 0xd800, 0xd800}, {0x110000, 0x110000, 0x110000}, {1<<31 - 1, 1<<31 - 1, 1<<31 - 1}, {-1 << 31, -1 << 31, -1 << 31},
	} {
		if upper, lower := table.Upper(x.c), table.Lower(x.c); upper != x.upper || lower != x.lower {
			t.Errorf("%x becomes %x and %x, want %x and %x", x.c, upper, lower, x.upper, x.lower)
		}
	}
}

func TestFold(t *testing.T) {
	table := tableOf(t, parsed(t, wholeText))
	for c, want := range map[api.Cell][]api.Cell{
		'b': {'b'}, 'a': {'A', 'a'}, 'A': {'A', 'a'}, 0xe1: {0xc1, 0xe1}, 0xc1: {0xc1},
		// By way of the capital one to its small one, and by way of the small one to its capital one.
		0x131: {'I', 'i', 0x131}, 'I': {'I', 'i'}, 'i': {'i'}, 0x130: {'i', 0x130}, 0x17f: {'S', 's', 0x17f},
		// All five, each another one, and no sixth: what 5 and 4 become is not asked.
		0x10: {2, 3, 4, 5, 0x10}, 2: {2, 5}, 3: {3, 4}, 0x1f600: {0x1f600},
		-1: {-1}, -256: {-256}, 0xd800: {0xd800}, 0x110000: {0x110000}, -1 << 31: {-1 << 31}, 1<<31 - 1: {1<<31 - 1},
	} {
		if l := table.Fold(c); !slices.Equal(l, want) {
			t.Errorf("Fold(%x) = %x, want %x", c, l, want)
		}
	}
	// Three steps are not asked: neither the capital one of a capital one, nor a small one's.
	chain := api.Locale{Upper: []api.Pair{pair(9, 8), pair(8, 7), pair(7, 6)}, Lower: []api.Pair{pair(20, 21), pair(21, 22), pair(6, 30)}}
	table = tableOf(t, chain)
	for c, want := range map[api.Cell][]api.Cell{9: {8, 9}, 8: {7, 8}, 7: {6, 7, 30}, 20: {20, 21}, 21: {21, 22}, 6: {6, 30}} {
		if l := table.Fold(c); !slices.Equal(l, want) {
			t.Errorf("Fold(%d) = %d, want %d", c, l, want)
		}
	}
}

func TestEveryCellOfPlain(t *testing.T) {
	a := ask(t, collate.Plain())
	for c := api.Cell(-300); c < 0x3000; c++ {
		a.askCell(c)
		a.askCells([]api.Cell{c})
		a.askName(string(rune(c)))
		a.askName(string([]byte{byte(c)}))
	}
	for from := api.Cell(-2); from < 0x82; from += 3 {
		for to := api.Cell(-2); to < 0x82; to++ {
			a.askBetween([]api.Cell{from}, []api.Cell{to})
		}
	}
}

func TestRank(t *testing.T) {
	table := tableOf(t, parsed(t, wholeText))
	for place, text := range []string{"a", "A", "z", "b", "c", "ch", "á", "Ch", "xy", "x", "abcd", "\\u", "\n", "\"", "ée"} {
		if n := table.Rank(cell.Of(text)); n != place {
			t.Errorf("Rank(%q) = %d, want %d", text, n, place)
		}
	}
	for _, l := range [][]api.Cell{
		nil, {}, {'h'}, {'y'}, {'c', 'c'}, {'h', 'c'}, {'c', 'h', 'c'}, {'c', 'h', 0}, {'a', 0}, {0, 'a'}, {'a', 'b'}, {'a', 'b', 'c'}, {'a', 'b', 'c', 'd', 'e'}, {'a', 'b', 'c', 'd', 0},
		{'a', 'b', 'c', 'd', 'a', 'b', 'c', 'd'}, {0}, {-98}, {0xd800}, {0x110000}, {'\\', 'n'}, {'\\', '?'}, {'\\'}, {0x10061}, {'e'}, make([]api.Cell, 100000), slices.Repeat([]api.Cell{'a'}, 100000),
	} {
		if n := table.Rank(l); n != -1 {
			t.Errorf("Rank(%.20v) = %d", l, n)
		}
		if rows := table.Alike(l); len(rows) != 1 || !slices.Equal(rows[0], l) {
			t.Errorf("Alike(%.20v) = %.20v", l, rows)
		}
		for _, other := range [][]api.Cell{l, {'a'}, {'é', 'e'}} {
			if rows, e := table.Between(l, other); rows != nil || e != api.ErrRange {
				t.Errorf("Between(%.20v, %.20v) = %v, %d", l, other, rows, e)
			}
			if rows, e := table.Between(other, l); rows != nil || e != api.ErrRange {
				t.Errorf("Between(%.20v, %.20v) = %v, %d", other, l, rows, e)
			}
		}
	}
}

// Elements of bytes that are of no scalar have a rank as any other ones.
func TestEscapes(t *testing.T) {
	a := ask(t, order(named("x", "\xff\xfe", 0), named("y", "\xc3\xff", 0), named("z", "a\xff", 2), single('a', 3)))
	for _, l := range [][]api.Cell{{-256, -255}, {-0xc4, -256}, {'a', -256}, {'a'}, {-256}, {-255, -256}, {-256, -256}} {
		a.askCells(l)
		a.askBetween(l, []api.Cell{'a'})
	}
	if rows := a.Alike([]api.Cell{-0xc4, -256}); !sameRows(rows, [][]api.Cell{{-256, -255}, {-0xc4, -256}}) {
		t.Errorf("Alike = %v", rows)
	}
	for name, want := range map[string][]api.Cell{"x": {-256, -255}, "y": {-0xc4, -256}, "\xff": nil, "\xff\xfe": nil} {
		if l := a.Named(name); !slices.Equal(l, want) {
			t.Errorf("Named(%q) = %v", name, l)
		}
	}
}

func TestNamed(t *testing.T) {
	table := tableOf(t, parsed(t, wholeText))
	for name, want := range map[string]string{
		"ch": "ch", "Ch": "Ch", "four": "abcd", "U041": "\\u",
		// An element's name counts first; then each scalar is its own text, in the order or not.
		"a": "xy", "e": "ée",
		"A": "A", "b": "b", "q": "q", "é": "é", "€": "€", "\U0001f600": "\U0001f600", "\ufffd": "\ufffd", "\x00": "\x00", "\n": "\n", "\"": "\"", "\\": "\\", "\u0301": "\u0301", "\U0010ffff": "\U0010ffff",
	} {
		if l := table.Named(name); !slices.Equal(l, cell.Of(want)) {
			t.Errorf("Named(%q) = %v, want %q", name, l, want)
		}
	}
	for _, name := range []string{"", "CH", "cH", "xy", "abcd", "ée", "\\n", "\\\\", "\\u{e9}", "U0041", "<ch>", "ch ", "aa", "\xff", "\xc3", "\xed\xa0\x80", "\xc3\xa9\xc3", "e\u0301", "\xf4\x90\x80\x80", "\xc0\x80", strings.Repeat("a", 100000)} {
		if l := table.Named(name); len(l) != 0 {
			t.Errorf("Named(%.20q) = %v", name, l)
		}
	}
	// Of no order scalars have their names still; nothing is nobody's name.
	none := tableOf(t, api.Locale{})
	if l := none.Named("a"); !slices.Equal(l, []api.Cell{'a'}) || none.Named("ch") != nil || none.Named("") != nil {
		t.Errorf("of no order Named(a) = %v", l)
	}
	if l := tableOf(t, collate.Plain()).Named(""); len(l) != 0 {
		t.Errorf("of Plain nothing names %v", l)
	}
}

func TestAlike(t *testing.T) {
	table := tableOf(t, parsed(t, wholeText))
	for _, same := range []string{"a A á x", "z", "b", "c", "ch Ch \"", "xy", "abcd \\u", "ée", "y", "C", "q", "é"} {
		rows := rowsOf(same)
		for _, l := range rows {
			if got := table.Alike(l); !sameRows(got, rows) {
				t.Errorf("Alike(%v) = %v, want %v", l, got, rows)
			}
		}
	}
	// Those that are as good as the first of all, in order, however many there are.
	many := ask(t, order(manyElems(500)...))
	if rows := many.Alike([]api.Cell{0x100}); len(rows) != 101 || !slices.Equal(rows[1], []api.Cell{0x104, 'x'}) {
		t.Errorf("%d are as good as the first: %v", len(rows), rows)
	}
}

func TestBetween(t *testing.T) {
	table := tableOf(t, parsed(t, wholeText))
	all := [][]api.Cell{{'a'}, {'A'}, {'z'}, {'b'}, {'c'}, {'c', 'h'}, {0xe1}, {'C', 'h'}, {'x', 'y'}, {'x'}, {'a', 'b', 'c', 'd'}, {'\\', 'u'}, {'\n'}, {'"'}, {0xe9, 'e'}}
	for from := range all {
		for to := range all {
			rows, e := table.Between(all[from], all[to])
			if from > to {
				if rows != nil || e != api.ErrRange {
					t.Errorf("Between %d and %d = %v, %d", from, to, rows, e)
				}
				continue
			}
			if !sameRows(rows, all[from:to+1]) || e != api.OK {
				t.Errorf("Between %d and %d = %v, %d", from, to, rows, e)
			}
		}
	}
	// It is the place that counts, not the number, and not what is as good.
	if rows, e := table.Between([]api.Cell{'z'}, []api.Cell{'b'}); !sameRows(rows, rowsOf("z b")) || e != api.OK {
		t.Errorf("Between z and b = %v, %d", rows, e)
	}
	if rows, e := table.Between([]api.Cell{'A'}, []api.Cell{'a'}); rows != nil || e != 40 {
		t.Errorf("Between A and a = %v, %d", rows, e)
	}
	if rows, e := tableOf(t, api.Locale{}).Between([]api.Cell{'a'}, []api.Cell{'a'}); rows != nil || e != api.ErrRange {
		t.Errorf("of no order Between a and a = %v, %d", rows, e)
	}
}

// Each call counts as one, whatever it asks of others, whether it finds anything or not; Asked counts none.
func TestAsked(t *testing.T) {
	table := tableOf(t, parsed(t, wholeText))
	n := 0
	for range 3 {
		for name, call := range map[string]func(){
			"Class":          func() { table.Class("vowel") },
			"Class of none":  func() { table.Class("none") },
			"Is":             func() { table.Is("vowel", 'a') },
			"Is of none":     func() { table.Is("none", 'a') },
			"Upper":          func() { table.Upper('a') },
			"Upper of none":  func() { table.Upper(-1) },
			"Lower":          func() { table.Lower('A') },
			"Lower of none":  func() { table.Lower(-1) },
			"Fold":           func() { table.Fold(0x131) },
			"Rank":           func() { table.Rank([]api.Cell{'c', 'h'}) },
			"Rank of none":   func() { table.Rank(nil) },
			"Rank of many":   func() { table.Rank(make([]api.Cell, 9)) },
			"Named":          func() { table.Named("ch") },
			"Named scalar":   func() { table.Named("q") },
			"Named nothing":  func() { table.Named("") },
			"Alike":          func() { table.Alike([]api.Cell{'a'}) },
			"Alike to none":  func() { table.Alike(nil) },
			"Between":        func() { table.Between([]api.Cell{'a'}, []api.Cell{'c'}) },
			"Between none":   func() { table.Between(nil, []api.Cell{'c'}) },
			"Between, down":  func() { table.Between([]api.Cell{'c'}, []api.Cell{'a'}) },
			"Between itself": func() { table.Between([]api.Cell{'c'}, []api.Cell{'c'}) },
		} {
			if before := table.Asked(); before != n || table.Asked() != n {
				t.Errorf("Asked() = %d ahead of %s, want %d", before, name, n)
			}
			call()
			n++
			if after := table.Asked(); after != n {
				t.Errorf("Asked() = %d behind %s, want %d", after, name, n)
			}
		}
	}
}
