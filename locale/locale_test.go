package locale_test

import (
	"fmt"
	"slices"
	"strings"
	"testing"

	"redactor/api"
	"redactor/cell"
	"redactor/locale"
)

func class(name string, l ...api.Range) api.Class { return api.Class{Name: name, Ranges: l} }

func span(low, high api.Cell) api.Range { return api.Range{Low: low, High: high} }

func pair(from, to api.Cell) api.Pair { return api.Pair{From: from, To: to} }

// single is an element of one scalar.
func single(c api.Cell, same int) api.Elem { return api.Elem{Cells: []api.Cell{c}, Same: same} }

func named(name, text string, same int) api.Elem {
	return api.Elem{Name: name, Cells: cell.Of(text), Same: same}
}

func classes(l ...api.Class) api.Locale { return api.Locale{Classes: l} }

func order(l ...api.Elem) api.Locale { return api.Locale{Order: l} }

// singles are elements of the scalars from one to another one, each as good as itself alone.
func singles(from, to int) []api.Elem {
	var l []api.Elem
	for i, c := range upTo(from, to) {
		l = append(l, single(c, i))
	}
	return l
}

func expect(t *testing.T, s string, want api.Locale) {
	t.Helper()
	l, e, at := locale.Parse(s)
	if !equal(l, want) || e != api.OK || at != 0 {
		t.Errorf("Parse(%q) = %v, %d, %d, want %v", s, l, e, at, want)
	}
	check(t, s)
}

func expectError(t *testing.T, s string, want api.Errno, wantAt int) {
	t.Helper()
	l, e, at := locale.Parse(s)
	if !equal(l, api.Locale{}) || e != want || at != wantAt {
		t.Errorf("Parse(%.300q) = %v, %d, %d, want %d, %d", s, l, e, at, want, wantAt)
	}
	check(t, s)
}

// expectAt says that an error is told at a mark within a text: the first ! of it, which is taken out.
func expectAt(t *testing.T, marked string, want api.Errno) {
	t.Helper()
	ahead, behind, is := strings.Cut(marked, "!")
	if !is {
		t.Fatalf("no mark in %q", marked)
	}
	expectError(t, ahead+behind, want, len(ahead))
}

func expectPrint(t *testing.T, l api.Locale, want string) {
	t.Helper()
	if s, e := locale.Print(l); s != want || e != api.OK {
		t.Errorf("Print(%v) = %q, %d, want %q", l, s, e, want)
	}
	checkLocale(t, l)
}

func expectRight(t *testing.T, why string, l api.Locale) {
	t.Helper()
	if !locale.Right(l) {
		t.Errorf("not right: %s: %v", why, l)
	}
	checkLocale(t, l)
}

func expectWrong(t *testing.T, why string, l api.Locale) {
	t.Helper()
	if locale.Right(l) {
		t.Errorf("right: %s: %v", why, l)
	}
	if s, e := locale.Print(l); s != "" || e != api.ErrArg {
		t.Errorf("Print of what is wrong, %s, = %q, %d", why, s, e)
	}
	checkLocale(t, l)
}

func TestExample(t *testing.T) {
	const s = "class x <U0041>...<U0043>;<U0061>"
	want := classes(class("x", span(0x41, 0x43), span(0x61, 0x61)))
	expect(t, s, want)
	expectPrint(t, want, "class x <U0041> ... <U0043> ; <U0061>\n")
}

func TestNothing(t *testing.T) {
	for _, s := range []string{"", " ", "\t", "\n", "\n\n\n", " \n\t\n", "%", "%x", "%x\n%y\n", " \n %class x\n\t\n", strings.Repeat("\n", 4000)} {
		expect(t, s, api.Locale{})
	}
	expectRight(t, "nothing", api.Locale{})
	expectPrint(t, api.Locale{}, "")
}

func TestClasses(t *testing.T) {
	expect(t, "class x <U0041>", classes(class("x", span(0x41, 0x41))))
	expect(t, "class x <U0041>\n", classes(class("x", span(0x41, 0x41))))
	expect(t, "class x <U0041>...<U0042>", classes(class("x", span(0x41, 0x42))))
	expect(t, "class x <U0041>...<U0041>", classes(class("x", span(0x41, 0x41))))
	expect(t, "class x <U0000>...<U10FFFF>", classes(class("x", span(0, 0x10ffff))))
	expect(t, "class x <U10FFFF>;<U0000>", classes(class("x", span(0x10ffff, 0x10ffff), span(0, 0))))
	// Surrogates lie between two scalars, as numbers do.
	expect(t, "class x <UD7FF>...<UE000>", classes(class("x", span(0xd7ff, 0xe000))))
	expect(t, "class x <U0041>...<U1F600>", classes(class("x", span(0x41, 0x1f600))))
	// Ranges are as they stand there: neither sorted, nor joined, nor once alone.
	expect(t, "class x <U0061>;<U0041>...<U0043>;<U0042>;<U0042>;<U0044>...<U0045>", classes(class("x", span(0x61, 0x61), span(0x41, 0x43), span(0x42, 0x42), span(0x42, 0x42), span(0x44, 0x45))))
	expect(t, "class b <U0041>\nclass a <U0041>\nclass B <U0042>...<U0043>", classes(class("b", span(0x41, 0x41)), class("a", span(0x41, 0x41)), class("B", span(0x42, 0x43))))
	// Any Word is a name.
	for _, name := range []string{"class", "order", "from", "toupper", "tolower", "collating-element", "U0041", "ch", "-", "_", "0", "a-b_C9", strings.Repeat("x", 3000)} {
		expect(t, "class "+name+" <U0041>", classes(class(name, span(0x41, 0x41))))
	}
	var many []api.Range
	s := "class x "
	for n := range 300 {
		many = append(many, span(api.Cell(n), api.Cell(n)))
		s += fmt.Sprintf("<U%04X>;", n)
	}
	expect(t, strings.TrimSuffix(s, ";"), classes(class("x", many...)))
	// Scalars are numbers, however they are written.
	expect(t, "class x <U00e9>;<U00E9>;<U0000e9>...<U01f600>", classes(class("x", span(0xe9, 0xe9), span(0xe9, 0xe9), span(0xe9, 0x1f600))))
}

func TestClassesThatAreWrong(t *testing.T) {
	for _, s := range []string{
		"class!", "class!\n", "class !;", "class !<U0041>", "class !<x>", "class !\"x\"", "class !...", "class !\nclass x <U0041>",
		"class x!", "class x!\n<U0041>", "class x !y", "class x !;", "class x !<a>", "class x !\"a\"", "class x !...", "class x !(", "class x !;<U0041>",
		"class x <U0041> !<U0042>", "class x <U0041>!,<U0042>", "class x <U0041> !y", "class x <U0041>!<a>", "class x <U0041>!(", "class x <U0041>!\"a\"",
		"class x <U0041>;!", "class x <U0041>;!;", "class x <U0041>;!;<U0042>", "class x <U0041>;!<a>", "class x <U0041>; !y", "class x <U0041>;!...", "class x <U0041>;!\n<U0042>",
		"class x <U0041>...!", "class x <U0041>...!;", "class x <U0041>...!...", "class x <U0041>...!<a>", "class x <U0041>...!y", "class x <U0041>...!\n<U0043>",
		"class x <U0041>...<U0043>!...<U0045>", "class x <U0041>...<U0043>!<U0045>", "class x <U0041>...<U0043>!,", "class x <U0041>...<U0043>;!",
		"class x <U0041>...!<U0040>", "class x <U0041>...!<U0000>", "class x <U10FFFF>...!<U10FFFE>", "class x <UE000>...!<UD7FF>", "class x <U0041>;<U0042>...<U0042>;<U0042>...!<U0041>",
		"class x <U0041>...!<U0040>;y", "class x <U0041>...!<U0040>...",
		"class x !(<U0041>", "class x !(<U0041>,<U0042>)",
	} {
		expectAt(t, s, api.ErrForm)
	}
}

func TestPairs(t *testing.T) {
	for word, of := range map[string]func(l ...api.Pair) api.Locale{
		"toupper": func(l ...api.Pair) api.Locale { return api.Locale{Upper: l} },
		"tolower": func(l ...api.Pair) api.Locale { return api.Locale{Lower: l} },
	} {
		expect(t, word+" (<U0061>,<U0041>)", of(pair(0x61, 0x41)))
		expect(t, word+"(<U0061>,<U0061>)\n", of(pair(0x61, 0x61)))
		expect(t, word+" (<U0000>,<U10FFFF>);(<U10FFFF>,<U0000>)", of(pair(0, 0x10ffff), pair(0x10ffff, 0)))
		expect(t, word+" (<U0062>,<U0042>);(<U0061>,<U0042>);(<U0042>,<U0062>)", of(pair(0x62, 0x42), pair(0x61, 0x42), pair(0x42, 0x62)))
		// Of several lines those of the later ones are behind all others.
		expect(t, word+" (<U0062>,<U0042>)\n"+word+" (<U0061>,<U0041>);(<U0063>,<U0043>)\n"+word+"(<U0000>,<U0001>)", of(pair(0x62, 0x42), pair(0x61, 0x41), pair(0x63, 0x43), pair(0, 1)))
		var many []api.Pair
		s := word
		for n := range 160 {
			many = append(many, pair(api.Cell(n), api.Cell(n+1)))
			s += fmt.Sprintf("(<U%04X>,<U%04X>);", n, n+1)
		}
		expect(t, strings.TrimSuffix(s, ";"), of(many...))
		for _, wrong := range []string{
			"!", "!\n(<U0061>,<U0041>)", " !;", " !x", " !<U0061>", " !<a>", " !\"a\"", " !)", " !,", " !...", " !;(<U0061>,<U0041>)",
			"(!", "(!)", "(!,<U0041>)", "(!<a>,<U0041>)", "(!x", "(!(", "(!\"a\"", "(!\n<U0061>,<U0041>)",
			"(<U0061>!", "(<U0061>!)", "(<U0061>!;", "(<U0061>!<U0041>)", "(<U0061>!...<U0062>,<U0041>)", "(<U0061>!(", "(<U0061>!\n,<U0041>)", "(<U0061> !x",
			"(<U0061>,!", "(<U0061>,!)", "(<U0061>,!,", "(<U0061>,!<a>)", "(<U0061>,!x", "(<U0061>,!\"A\")", "(<U0061>,!\n<U0041>)",
			"(<U0061>,<U0041>!", "(<U0061>,<U0041>!;", "(<U0061>,<U0041>!,<U0042>)", "(<U0061>,<U0041>!(", "(<U0061>,<U0041>!...<U0042>)", "(<U0061>,<U0041>!\n)",
			"(<U0061>,<U0041>)!)", "(<U0061>,<U0041>)!,", "(<U0061>,<U0041>)!(<U0062>,<U0042>)", "(<U0061>,<U0041>)!<U0062>", "(<U0061>,<U0041>)!x", "(<U0061>,<U0041>)!...",
			"(<U0061>,<U0041>);!", "(<U0061>,<U0041>);!;", "(<U0061>,<U0041>);!<U0062>", "(<U0061>,<U0041>);!\n(<U0062>,<U0042>)",
		} {
			expectAt(t, word+wrong, api.ErrForm)
		}
	}
	expect(t, "tolower(<U0041>,<U0061>)\ntoupper(<U0061>,<U0041>)\ntolower(<U0042>,<U0062>)", api.Locale{Upper: []api.Pair{pair(0x61, 0x41)}, Lower: []api.Pair{pair(0x41, 0x61), pair(0x42, 0x62)}})
}

// elements are a definition of one element of a text, in the order.
func element(text string) string { return "collating-element <x> from \"" + text + "\"\norder <x>" }

func TestElements(t *testing.T) {
	// What is declared alone is not told.
	expect(t, "collating-element <ch> from \"ch\"", api.Locale{})
	expect(t, "collating-element <ch> from \"ch\"\ncollating-element <ll> from \"ch\"\n", api.Locale{})
	for _, text := range []string{
		"ch", "chs", "chsx", "\\\\", "|/", "''", "  ", "%%", "<>", "...", ";,", "\t\r", "\x00\x00", "éé", "éèêë", "\u20ac\U0001f600",
		"\xff\xfe", "a\xff", "\xffa", "\xc3\xff", "\xff\xff\xff\xff", "\xed\xa0", "\xf0\x9f\x98a", "\ufffd\ufffd", "\u0085\u2028", "\xc3é", "éa\xa9",
	} {
		expect(t, element(text), order(named("x", text, 0)))
	}
	// It is cells that are counted, not bytes: escapes are cells, too.
	for _, text := range []string{"", "c", "é", "\U0001f600", "\xff", "\ufffd", "chsxy", "ééééé", "\xff\xff\xff\xff\xff", "\xed\xa0\x80\xed\xa0", strings.Repeat("a", 3000)} {
		expectAt(t, "collating-element <x> from !\""+text+"\"", api.ErrLong)
		expectAt(t, "collating-element <x> from !\""+text+"\" x", api.ErrLong)
		expectAt(t, "collating-element <a> from \"ch\"\ncollating-element <x> from !\""+text+"\"\norder <x>", api.ErrLong)
	}
	for _, name := range []string{"a", "Z", "0", "-", "_", "U", "U0", "U041", "U0000041", "U00G1", "u0041", "from", "class", "-U0041", strings.Repeat("n", 1900)} {
		expect(t, "collating-element <"+name+"> from \"ch\"\norder <"+name+">", order(named(name, "ch", 0)))
	}
	for _, s := range []string{
		"!", "!\n<x> from \"ch\"", " !x", " !;", " !<U0041> from \"ch\"", " !\"ch\"", " !from", " !...", " !(", " !from \"ch\"",
		"<x>!", "<x>!\nfrom \"ch\"", "<x> !x \"ch\"", "<x> !From \"ch\"", "<x> !FROM \"ch\"", "<x> !fro \"ch\"", "<x> !froma \"ch\"", "<x>!;", "<x>!\"ch\"", "<x>!\"from\" \"ch\"", "<x>!<from> \"ch\"", "<x>!<U0041>", "<x>!<y>", "<x>!...",
		"<x> from!", "<x> from!\n\"ch\"", "<x> from !ch", "<x> from !from", "<x> from!<ch>", "<x> from!<U0041>", "<x> from!<U0041>;<U0042>", "<x> from!;", "<x> from!(",
		"<x> from \"ch\"!\"x\"", "<x> from \"ch\"!;", "<x> from \"ch\" !x", "<x> from \"ch\"!<x>", "<x> from \"ch\"!<U0041>", "<x> from \"ch\"!...",
	} {
		expectAt(t, "collating-element"+s, api.ErrForm)
	}
}

func TestOrder(t *testing.T) {
	expect(t, "order <U0061>", order(single(0x61, 0)))
	expect(t, "order <U0000>\norder <U10FFFF>\n", order(single(0, 0), single(0x10ffff, 1)))
	expect(t, "order <U0062>\norder <U0061>\norder <U0063>", order(single(0x62, 0), single(0x61, 1), single(0x63, 2)))
	// Quotes and ends of lines are scalars like any other ones by themselves.
	expect(t, "order <U0022>\norder <U000A>", order(single('"', 0), single('\n', 1)))
	expect(t, "collating-element <ch> from \"ch\"\norder <U0063>\norder <ch>\norder <U0064>", order(single(0x63, 0), named("ch", "ch", 1), single(0x64, 2)))
	expect(t, "order <U0061>...<U0063>", order(singles(0x61, 0x63)...))
	expect(t, "order <U0061>...<U0061>", order(single(0x61, 0)))
	expect(t, "order <UD7FF>...<UE000>", order(single(0xd7ff, 0), single(0xe000, 1)))
	expect(t, "order <UD7FE>...<UE001>", order(single(0xd7fe, 0), single(0xd7ff, 1), single(0xe000, 2), single(0xe001, 3)))
	expect(t, "order <U007A>\norder <U0061>...<U0063>\norder <U0079>", order(single(0x7a, 0), single(0x61, 1), single(0x62, 2), single(0x63, 3), single(0x79, 4)))
	expect(t, "order <U10FFFE>...<U10FFFF>", order(single(0x10fffe, 0), single(0x10ffff, 1)))
	for _, s := range []string{
		"!", "!\n<U0061>", " !x", " !;", " !\"a\"", " !...", " !(", " !;<U0061>", " !...<U0061>", " !,",
		"<U0061>!<U0062>", "<U0061>!,<U0062>", "<U0061> !x", "<U0061>!\"a\"", "<U0061>!(", "<U0061>!<x>",
		"<U0061>...!", "<U0061>...!\n<U0062>", "<U0061>...!;", "<U0061>...!...", "<U0061>...!<ch>", "<U0061>...!x", "<U0061>...!\"b\"",
		"<U0061>...!<U0060>", "<U0061>...!<U0000>", "<U10FFFF>...!<U10FFFE>", "<UE000>...!<UD7FF>", "<U0061>...!<U0060>;<U0061>",
		"<U0061>...<U0063>!;<U0061>", "<U0061>...<U0063>!;<U0060>", "<U0061>...<U0063>!...<U0065>", "<U0061>...<U0063>!<U0065>", "<U0061>...<U0063> !x", "<U0061>...<U0063>!,",
		"<U0061>;!", "<U0061>;!\n<U0062>", "<U0061>;!;", "<U0061>;!x", "<U0061>;!\"b\"", "<U0061>;!...", "<U0061>;!(",
		"<ch>!<ch>", "<ch>!,", "<ch>!...<U0061>", "<ch>!...", "<ch>!\"ch\"", "<ch> !x", "<ch>;!", "<ch>;!;", "<ch>;!x",
		"<U0061>;<U0041>!;<U0041>", "<U0061>;<U0041>!...<U0042>", "<U0061>;<U0041>!<U0042>", "<U0061>;<U0041> !x", "<ch>;<U0041>!;", "<U0061>;<ll>!;", "<U0061>;<ll>!...",
	} {
		expectAt(t, "collating-element <ch> from \"ch\"\ncollating-element <ll> from \"ll\"\norder <U0041>\norder <ll>\norder "+s, api.ErrForm)
	}
}

func TestSame(t *testing.T) {
	const ahead = "collating-element <ch> from \"ch\"\ncollating-element <ll> from \"ll\"\norder <U0041>\n"
	expect(t, ahead+"order <U0061>;<U0041>", order(single(0x41, 0), single(0x61, 0)))
	expect(t, ahead+"order <ch>;<U0041>\norder <ll>", order(single(0x41, 0), named("ch", "ch", 0), named("ll", "ll", 2)))
	expect(t, ahead+"order <ch>\norder <ll>;<ch>\norder <U0061>;<ch>", order(single(0x41, 0), named("ch", "ch", 1), named("ll", "ll", 1), single(0x61, 1)))
	// One that is as good as a second one is as good as what that one is as good as.
	expect(t, ahead+"order <U0061>;<U0041>\norder <U0062>;<U0061>\norder <U0063>;<U0062>", order(single(0x41, 0), single(0x61, 0), single(0x62, 0), single(0x63, 0)))
	expect(t, ahead+"order <U0061>...<U0063>\norder <U0064>;<U0062>\norder <ll>;<U0064>", order(single(0x41, 0), single(0x61, 1), single(0x62, 2), single(0x63, 3), single(0x64, 2), named("ll", "ll", 2)))
	// What is in the order is told by its cells, whatever name they have there.
	expect(t, ahead+"collating-element <x> from \"ch\"\norder <x>\norder <U0061>;<ch>", order(single(0x41, 0), named("x", "ch", 1), single(0x61, 1)))
	for _, s := range []string{
		// Not in the order at all, or from this line, or not declared, or declared behind it.
		"<U0061>;!<U0062>", "<U0061>;!<U0061>", "<ch>;!<ch>", "<ch>;!<ll>", "<U0061>;!<ch>", "<U0061>;!<x>", "<ch>;!<x>", "!<x>", "!<x>;<U0041>", "!<x>;<x>", "!<x>;", "!<x>...", "!<x>...<U0041>", "!<x> y",
		"<U0061>;!<U0062>\norder <U0062>", "!<x>\ncollating-element <x> from \"xy\"", "<U0061>;!<x>\ncollating-element <x> from \"xy\"\norder <x>",
		"<U0061>;!<U0062>;", "<U0061>;!<x> y", "<U0061>;!<U0062>...<U0063>",
		"<U0061>;!<A>", "!<CH>", "!<c>", "!<ch2>",
	} {
		expectAt(t, ahead+"order "+s, api.ErrName)
	}
	// Two names of the same cells, of which the line itself tells the first.
	expectAt(t, ahead+"collating-element <x> from \"ch\"\norder <ch>;!<x>", api.ErrName)
	expectAt(t, "order !<ch>", api.ErrName)
}

// Lines of each kind, in every order of their kinds.
func TestEveryOrderOfLines(t *testing.T) {
	lines := []string{
		"class x <U0041>...<U0043>", "toupper (<U0061>,<U0041>)", "tolower (<U0041>,<U0061>)", "collating-element <ch> from \"ch\"", "order <U0041>...<U0042>", "order <ch>", "order <U0061>;<U0041>",
	}
	rights := 0
	var lay func(s string, left []string)
	lay = func(s string, left []string) {
		check(t, s)
		if _, e, _ := locale.Parse(s); len(left) == 0 && e == api.OK {
			rights++
		}
		for i, line := range left {
			lay(s+line+"\n", slices.Delete(slices.Clone(left), i, i+1))
		}
	}
	lay("", lines)
	// <ch> must be declared ahead of its line, A be in the order ahead of a: a quarter of 7!.
	if rights != 1260 {
		t.Errorf("%d of all orders are right", rights)
	}
	expect(t, strings.Join(lines, "\n"), api.Locale{
		Classes: []api.Class{class("x", span(0x41, 0x43))},
		Upper:   []api.Pair{pair(0x61, 0x41)},
		Lower:   []api.Pair{pair(0x41, 0x61)},
		Order:   []api.Elem{single(0x41, 0), single(0x42, 1), named("ch", "ch", 2), single(0x61, 0)},
	})
}

func TestLinesThatAreNone(t *testing.T) {
	for _, s := range []string{
		"!x", "!x y", "!Class x <U0041>", "!CLASS x <U0041>", "!classes x <U0041>", "!clas", "!ToUpper (<U0061>,<U0041>)", "!collating", "!collating-elements <ch> from \"ch\"", "!collating_element <ch> from \"ch\"", "!Order <U0041>", "!orders", "!from", "!end", "!-", "!0",
		"!;", "!,", "!(", "!)", "!...", "!<U0041>", "!<class> x <U0041>", "!<x>", "!\"class\" x <U0041>", "!\"\"", "!<U0041>...<U0043>", "!;\n", "!(<U0061>,<U0041>)",
	} {
		expectAt(t, s, api.ErrForm)
		expectAt(t, "\n %x\n\t"+s, api.ErrForm)
		expectAt(t, "class x <U0041>\n"+s, api.ErrForm)
		expectAt(t, "toupper (<U0061>,<U0041>)\n"+s+"\nclass", api.ErrForm)
	}
	// A line goes up to its end: no other one may begin within it.
	for _, s := range []string{"class x <U0041> !class y <U0041>", "toupper (<U0061>,<U0041>) !tolower (<U0041>,<U0061>)", "order <U0041> !order <U0042>", "collating-element <x> from \"xy\" !order <x>"} {
		expectAt(t, s, api.ErrForm)
	}
	expect(t, " \n%y\n\t class\tx <U0041> %z\n\n\norder\t<U0041>...<U0042>%", api.Locale{Classes: []api.Class{class("x", span(0x41, 0x41))}, Order: singles(0x41, 0x42)})
}

func TestTwice(t *testing.T) {
	const ahead = "class x <U0041>\ntoupper (<U0061>,<U0041>)\ntolower (<U0041>,<U0061>)\ncollating-element <ch> from \"ch\"\ncollating-element <c> from \"ch\"\norder <U0041>\norder <ch>\norder <U0061>...<U0063>\norder <U0064>;<U0061>\n"
	for _, s := range []string{
		"class !x <U0042>", "class !x <U0041>", "class !x", "class !x y", "class !x <U0043>...<U0042>",
		"class y <U0041>\nclass z <U0041>\nclass !y <U0042>",
		"toupper (!<U0061>,<U0041>)", "toupper (!<U0061>,<U0042>)", "toupper (<U0062>,<U0042>);(!<U0061>,<U0041>)", "toupper (<U0062>,<U0042>);(!<U0062>,<U0042>)", "toupper (<U0062>,<U0042>)\ntoupper (<U0063>,<U0043>);(!<U0062>,<U0044>)", "toupper (!<U0061>", "toupper (!<U0061>)",
		"tolower (!<U0041>,<U0061>)", "tolower (!<U0041>,<U0062>)", "tolower (<U0042>,<U0062>);(!<U0041>,<U0061>)", "tolower (<U0042>,<U0062>);(!<U0042>,<U0062>)", "tolower (<U0042>,<U0062>)\ntolower (<U0043>,<U0063>);(!<U0042>,<U0064>)", "tolower (!<U0041>", "tolower (!<U0041>;",
		"collating-element !<ch> from \"ch\"", "collating-element !<ch> from \"xy\"", "collating-element !<c> from \"x\"", "collating-element !<c>", "collating-element !<c> x", "collating-element <y> from \"xy\"\ncollating-element !<y> from \"yz\"",
		"order !<U0041>", "order !<U0062>", "order !<U0064>", "order !<ch>", "order !<c>", "order !<U0041>;<U0061>", "order !<U0041>;<U0041>", "order !<ch>;<U0041>", "order !<c>;<ch>", "order !<U0041> x", "order !<U0041>;", "order !<U0041>;x", "order !<ch>...", "order !<ch> x",
		// With ... each of those between is asked for, and the second one is read first.
		"order !<U0041>...<U0041>", "order !<U0041>...<U0042>", "order !<U0040>...<U0041>", "order !<U0030>...<U0050>", "order !<U0000>...<U10FFFF>", "order !<U0041>...<U10FFFF>", "order !<U0063>...<U0065>", "order !<U0060>...<U0061>", "order !<U0064>...<U0070>", "order !<U0041>...<U0042> x", "order !<U0041>...<U0042>;",
	} {
		expectAt(t, ahead+s, api.ErrTwice)
	}
	for _, s := range []string{"order <U0041>...!", "order <U0041>...!x", "order <U0041>...!<ch>", "order <U0041>...!<U0040>", "order <U0041>...!;", "order <U0041>...!...", "order <U0061>...!<U0060>"} {
		expectAt(t, ahead+s, api.ErrForm)
	}
	// The second S of ; is there already, as it must be; so may be a pair's second scalar, and a pair's first one in the other pairs.
	for _, s := range []string{"order <U0042>;<U0041>", "order <U0042>;<U0064>", "order <U0042>;<c>", "order <U0065>...<U0070>", "toupper (<U0062>,<U0041>);(<U0041>,<U0061>)", "tolower (<U0061>,<U0061>)", "class y <U0041>", "class X <U0041>", "collating-element <CH> from \"ch\"", "class ch <U0041>", "collating-element <x> from \"xy\""} {
		if _, e, at := locale.Parse(ahead + s); e != api.OK || at != 0 {
			t.Errorf("Parse of %q: %d, %d", s, e, at)
		}
		check(t, ahead+s)
	}
	// A name's cells are not one of a range, even if the first of them is.
	expect(t, "collating-element <ab> from \"ab\"\norder <ab>\norder <U0061>...<U0062>", order(named("ab", "ab", 0), single(0x61, 1), single(0x62, 2)))
	expectAt(t, "collating-element <a> from \"ab\"\ncollating-element <b> from \"ab\"\norder <b>\norder !<a>", api.ErrTwice)
}

// orderOf is a definition of so many elements, from <U1000> on.
func orderOf(n int) string { return fmt.Sprintf("order <U1000>...<U%04X>\n", 0x1000+n-1) }

func TestTooManyOfTheOrder(t *testing.T) {
	const ch = "collating-element <ch> from \"ch\"\ncollating-element <ll> from \"ll\"\n"
	for _, s := range []string{orderOf(500), orderOf(499) + "order <U0041>", orderOf(499) + "order <U0041>;<U1001>", ch + orderOf(499) + "order <ch>", orderOf(498) + "order <U0041>...<U0042>", orderOf(1) + "order <U0041>...<U0233>", "order <U0041>\norder <UD700>...<UE0F2>"} {
		l, e, at := locale.Parse(s)
		if len(l.Order) != 500 || e != api.OK || at != 0 {
			t.Errorf("Parse(%q): %d elements, %d, %d", s, len(l.Order), e, at)
		}
		check(t, s)
	}
	full := ch + orderOf(498) + "order <U0042>\norder <U0041>\n"
	for _, s := range []string{
		"order !<U1000>...<U11F4>", "order !<U0000>...<U01F4>", "order !<U0000>...<U10FFFF>", "order !<U0000>...<UFFFF>", "order <U0041>\norder !<UD700>...<UE0F3>",
		orderOf(500) + "order !<U0041>", ch + orderOf(500) + "order !<ch>", orderOf(499) + "order !<U0041>...<U0042>", orderOf(499) + "order <U0041>\norder !<U0042>", orderOf(1) + "order !<U0041>...<U0234>",
		full + "order !<U0043>", full + "order !<ch>", full + "order !<U0043>...<U0044>", full + "order !<U0043>...<U0043>", full + "order !<U0043>;<U0041>", full + "order !<ch>;<U0041>",
		// The first of a line goes ahead of what is wrong behind it.
		full + "order !<U0043>;<U0044>", full + "order !<U0043>;<x>", full + "order !<U0043>;", full + "order !<U0043> x", full + "order !<ch>...", full + "order !<ch>;<ll>", full + "order !<U0043>...<U0044> x", full + "order !<U0043>...<U0044>;",
	} {
		expectAt(t, s, api.ErrLong)
	}
	// Of one token what has no name, and what is twice, goes ahead; and what is behind ... is read first.
	for s, e := range map[string]api.Errno{
		"order !<x>": api.ErrName, "order !<x>;<U0041>": api.ErrName, "order !<U0041>": api.ErrTwice, "order !<U0041>;<U0041>": api.ErrTwice, "order !<U0030>...<U0041>": api.ErrTwice, "order !<U0000>...<U10FFFF>": api.ErrTwice, "order !<U0042>...<U0050>": api.ErrTwice,
		"order <U0043>...!": api.ErrForm, "order <U0043>...!x": api.ErrForm, "order <U0043>...!<U0042>": api.ErrForm, "order <U0043>...!<ch>": api.ErrForm, "order !x": api.ErrForm, "order!": api.ErrForm,
	} {
		expectAt(t, full+s, e)
	}
	expectAt(t, "order <U1000>...<U11F2>\norder !<U0041>...<U1000>", api.ErrTwice)
	// Other lines may follow a full order.
	expect(t, orderOf(500)+"class x <U0041>", api.Locale{Classes: []api.Class{class("x", span(0x41, 0x41))}, Order: singles(0x1000, 0x11f3)})
	// One by one there are not so many tokens that 500 would be reached.
	s := ""
	for n := range 285 {
		s += fmt.Sprintf("order<U%04X>\n", n)
	}
	expect(t, s, order(singles(0, 284)...))
	expect(t, s+"order<U0200>...<U02D6>", order(append(singles(0, 284), elemsFrom(0x200, 215, 285)...)...))
	expectAt(t, s+"order!<U0200>...<U02D7>", api.ErrLong)
}

// elemsFrom are so many elements of one scalar, the first of which has a place.
func elemsFrom(first api.Cell, n, place int) []api.Elem {
	var l []api.Elem
	for i := range n {
		l = append(l, single(first+api.Cell(i), place+i))
	}
	return l
}

// Errors are told line by line, token by token, whatever kind they are of.
func TestWhichErrorIsTold(t *testing.T) {
	for s, e := range map[string]api.Errno{
		"class x <U0041>\nclass !x <U0041>;;":                            api.ErrTwice,
		"class x <U0041>;!;\nclass x <U0041>":                            api.ErrForm,
		"class x <U0041>\nclass x2 <U0043>...!<U0042>\nclass x":          api.ErrForm,
		"order !<x>\norder <U0041> x":                                    api.ErrName,
		"order <U0041>\norder <U0042>;!<x>;":                             api.ErrName,
		"order <U0041>\norder !<U0041>;<x>":                              api.ErrTwice,
		"order <U0041>\norder !<U0041>\norder <x>":                       api.ErrTwice,
		"collating-element <x> from !\"x\"\ncollating-element <x>":       api.ErrLong,
		"collating-element <x> from \"xy\"\ncollating-element !<x> \"\"": api.ErrTwice,
		"collating-element <x> !\"\"":                                    api.ErrForm,
		"!x\norder <x>":                                                  api.ErrForm,
		"toupper (<U0061>,<U0041>);(!<U0061>,x":                          api.ErrTwice,
		"toupper (<U0061>,<U0041>!;(<U0061>,<U0041>)":                    api.ErrForm,
	} {
		expectAt(t, s, e)
	}
}

// What lex refuses is told as lex does, ahead of all that lines are asked for.
func TestErrorsOfTokens(t *testing.T) {
	for s, at := range map[string]int{
		"?": 0, "class x ?": 8, "x y z\n?": 6, "class\nclass\n \"": 13, "order <x>\norder <UD800>": 16, "class x <U0041>..<U0043>": 15, "class x <U110000>": 8, "\xff": 0, "class x <U0041>\nclass x <U0041> \xc3\xa9": 32, "order <>": 6, "class x <U0041>\r\n": 15, "order <U0041>....<U0043>": 16,
	} {
		expectError(t, s, api.ErrToken, at)
	}
	for _, s := range []string{
		strings.Repeat(" ", 4001), strings.Repeat("?", 4001), "class x <U0041>\n%" + strings.Repeat("x", 4000), strings.Repeat(";", 1000), "class x <U0041>" + strings.Repeat(";<", 3000), "x" + strings.Repeat(" ;", 999), "order <x>\n" + strings.Repeat(";", 1000),
	} {
		expectError(t, s, api.ErrLong, 0)
	}
	expectAt(t, "class x <U0041>!"+strings.Repeat(",", 996), api.ErrForm)
	expectError(t, "class x <U0041>"+strings.Repeat(",", 997), api.ErrLong, 0)
	expect(t, "class x <U0041>"+strings.Repeat(" ", 3985), classes(class("x", span(0x41, 0x41))))
	expectError(t, "class x <U0041>"+strings.Repeat(" ", 3986), api.ErrLong, 0)
}

// rows are all texts of up to most of some pieces.
func rows(some []string, most int, visit func(s string)) {
	var grow func(s string, n int)
	grow = func(s string, n int) {
		visit(s)
		for i := 0; i < len(some) && n < most; i++ {
			grow(s+some[i]+" ", n+1)
		}
	}
	grow("", 0)
}

// What is quoted, and a name, is no sign and no word, whatever stands between.
func TestQuotedIsNoSign(t *testing.T) {
	for _, s := range []string{
		"class x <U0041>!\";\"<U0042>", "class x <U0041>!\"...\"<U0042>", "class !\"x\" <U0041>", "class !<x> <U0041>",
		"toupper !\"(\"<U0061>,<U0041>)", "toupper (<U0061>!\",\"<U0041>)", "toupper (<U0061>,<U0041>!\")\"", "toupper (<U0061>,<U0041>)!\";\"(<U0062>,<U0042>)",
		"order <U0041>!\"...\"<U0042>", "order <U0041>\norder <U0042>!\";\"<U0041>", "order !\"U0041\"", "!\"order\" <U0041>", "!<order> <U0041>",
		"collating-element !\"x\" from \"xy\"", "collating-element <x> !\"from\" \"xy\"", "collating-element <x> !<from> \"xy\"", "collating-element <x> from !<xy>",
	} {
		expectAt(t, s, api.ErrForm)
	}
}

// Of each kind of line all that may stand behind its first word, and all that may not.
func TestRows(t *testing.T) {
	const ahead = "class x <U0041>\ncollating-element <ch> from \"ch\"\ncollating-element <ll> from \"ll\"\ntoupper (<U0061>,<U0041>)\norder <U0041>\norder <ll>\n"
	all := []string{"x", "from", "class", ";", ",", "(", ")", "...", "<U0040>", "<U0041>", "<U0061>", "<ch>", "<z>", "\"ch\"", "\"c\"", "\n"}
	rows(all, 4, func(s string) { check(t, s) })
	for _, first := range []string{"class ", "toupper ", "tolower ", "collating-element ", "order "} {
		rows(all, 3, func(s string) { check(t, ahead+first+s) })
	}
	rows([]string{";", "...", "<U0040>", "<U0041>", "<U0061>", "\n"}, 5, func(s string) { check(t, "class y "+s) })
	rows([]string{";", "...", "<U0040>", "<U0042>", "<ch>", "<ll>", "<z>"}, 5, func(s string) { check(t, ahead+"order "+s) })
	rows([]string{";", ",", "(", ")", "<U0061>", "<U0062>"}, 6, func(s string) { check(t, ahead+"toupper "+s) })
	rows([]string{";", "(<U0061>,<U0041>)", "(<U0062>,<U0042>)", "(<U0041>,<U0061>)", "\ntoupper", "\ntolower"}, 5, func(s string) { check(t, "tolower "+s) })
	rows([]string{"\norder", "<U0041>", "<U0042>", "<U0041>...<U0043>", "<ch>", ";"}, 6, func(s string) { check(t, "collating-element <ch> from \"ch\"\norder "+s) })
}
