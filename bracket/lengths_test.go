package bracket_test

import (
	"math"
	"math/rand"
	"slices"
	"testing"

	"redactor/api"
	"redactor/bracket"
	"redactor/cell"
)

// someCells are scalars that become others, some that do not, escapes, and numbers that are no cells.
var someCells = []api.Cell{0, '\n', '-', 'A', 'C', 'H', 'I', 'S', 'a', 'b', 'c', 'h', 'i', 's', 'z', 0xc1, 0xe1, 0x130, 0x131, 0x17f, 0x10ffff, -1, -98, -256, -257, 0xd800, 0x110000, math.MaxInt32, math.MinInt32}

func TestAlike(t *testing.T) {
	plain, whole := askPlain(t), askWhole(t)
	for _, x := range []struct {
		a, b         api.Cell
		plain, whole bool
	}{
		{'a', 'a', true, true}, {'a', 'A', true, true}, {'a', 'b', false, false}, {'b', 'B', true, false}, {'z', 'Z', true, false}, {'a', 'B', false, false}, {'[', '{', false, false}, {'@', '`', false, false},
		// One that leads to the other is enough.
		{0xe1, 0xc1, false, true}, {0x17f, 'S', false, true}, {0x17f, 's', false, true}, {'S', 's', true, true}, {0x131, 'I', false, true}, {0x131, 'i', false, true}, {0x130, 'i', false, true}, {'I', 'i', true, true}, {'h', 'H', true, true},
		// What both lead to, or what is led to from another one, is not.
		{0x130, 'I', false, false}, {0x130, 0x131, false, false}, {0x17f, 0x130, false, false},
		{-98, 'a', false, false}, {-98, -98, true, true}, {-98, 'A', false, false}, {0xd800, 0xd800, true, true}, {0x110000, 0x110001, false, false}, {math.MinInt32, math.MinInt32, true, true}, {0, 0, true, true}, {0, ' ', false, false},
	} {
		for _, l := range [][2]api.Cell{{x.a, x.b}, {x.b, x.a}} {
			if got := bracket.Alike(l[0], l[1], plain.table); got != x.plain {
				t.Errorf("Alike(%x, %x) = %v of the plain one", l[0], l[1], got)
			}
			if got := bracket.Alike(l[0], l[1], whole.table); got != x.whole {
				t.Errorf("Alike(%x, %x) = %v of the whole one", l[0], l[1], got)
			}
			if got := bracket.Alike(l[0], l[1], nil); got != (x.a == x.b) {
				t.Errorf("Alike(%x, %x) = %v of none", l[0], l[1], got)
			}
		}
	}
	for _, a := range []asking{plain, whole} {
		for _, c := range someCells {
			for _, other := range someCells {
				if got := bracket.Alike(c, other, a.table); got != a.areAlike(c, other) {
					t.Errorf("Alike(%x, %x) = %v", c, other, got)
				}
			}
		}
	}
}

// takes expects how many cells of a text a set takes, without a table and with the whole one.
func (a asking) takes(s api.Bracket, text string, at int, want, wantFolded []int) {
	a.Helper()
	l := cell.Of(text)
	if got := bracket.Lengths(s, l, at, nil); !slices.Equal(got, want) {
		a.Errorf("Lengths(%s, %s, %d, nil) = %v, want %v", shown(s), cell.Text(l), at, got, want)
	}
	if got := bracket.Lengths(s, l, at, a.table); !slices.Equal(got, wantFolded) {
		a.Errorf("Lengths(%s, %s, %d) = %v, want %v", shown(s), cell.Text(l), at, got, wantFolded)
	}
	a.expectLengths(s, l, at)
}

func TestLengthsOfRanges(t *testing.T) {
	a := askWhole(t)
	one, none := []int{1}, []int(nil)
	abc, i := set("", span('a', 'c')), set("", span('i', 'i'))
	for _, x := range []struct {
		set          api.Bracket
		text         string
		want, folded []int
	}{
		{abc, "a", one, one}, {abc, "b", one, one}, {abc, "c", one, one}, {abc, "`", none, none}, {abc, "d", none, none}, {abc, "A", none, one}, {abc, "C", none, one}, {abc, "B", none, none}, {abc, "\xff", none, none}, {abc, "", none, none},
		{notIn(abc), "a", none, none}, {notIn(abc), "A", one, none}, {notIn(abc), "B", one, one}, {notIn(abc), "d", one, one}, {notIn(abc), "\xff", one, one}, {notIn(abc), "\n", one, one}, {notIn(abc), "", none, none},
		// A cell leads to what is in a range; what is in the range need not lead to the cell.
		{i, "I", none, one}, {i, "i", one, one}, {i, "İ", none, one}, {i, "ı", none, one}, {set("", span(0x131, 0x131)), "i", none, none}, {set("", span(0x131, 0x131)), "I", none, none}, {set("", span(0x130, 0x131)), "ı", one, one},
		{set("", span('S', 'S')), "ſ", none, one}, {set("", span('s', 's')), "ſ", none, one}, {set("", span(0xc1, 0xc1)), "á", none, one}, {set("", span(0xe1, 0xe1)), "Á", none, none},
		{notIn(i), "İ", one, none}, {notIn(set("", span(0x131, 0x131))), "I", one, one},
		{api.Bracket{}, "a", none, none}, {notIn(api.Bracket{}), "a", one, one}, {notIn(api.Bracket{}), "\x80", one, one},
		{set("", span('c', 'a')), "b", none, none}, {notIn(set("", span('c', 'a'))), "b", one, one}, {set("", span('x', 'x'), span('c', 'a'), span('a', 'b')), "b", one, one},
		{set("", span('a', 'a'), span('c', 'c')), "b", none, none}, {set("", span('a', 'a'), span('c', 'c')), "c", one, one}, {set("", span('a', 'c'), span('b', 'b')), "b", one, one}, {notIn(set("", span('x', 'x'), span('a', 'c'))), "b", none, none},
		{set("", span(-256, -1)), "\xff", one, one}, {set("", span(-256, -1)), "\x00", none, none}, {set("", span(-256, 'a')), "a", one, one}, {set("", span(math.MinInt32, math.MaxInt32)), "é", one, one},
	} {
		a.takes(x.set, x.text, 0, x.want, x.folded)
		a.takes(x.set, "a"+x.text, 1, x.want, x.folded)
		if x.text != "" {
			a.takes(x.set, x.text+"a", 0, x.want, x.folded)
			a.takes(x.set, "xy"+x.text+"bc", 2, x.want, x.folded)
		}
	}
}

func TestLengthsOfTexts(t *testing.T) {
	a := askWhole(t)
	none := []int(nil)
	ch := set("ch", span('c', 'c'))
	many := set("ch c chch xy abcd chc ch", span('a', 'c'))
	for _, x := range []struct {
		set          api.Bracket
		text         string
		at           int
		want, folded []int
	}{
		{ch, "ch", 0, []int{2, 1}, []int{2, 1}}, {ch, "chch", 0, []int{2, 1}, []int{2, 1}}, {ch, "chch", 2, []int{2, 1}, []int{2, 1}}, {ch, "chch", 1, none, none}, {ch, "c", 0, []int{1}, []int{1}}, {ch, "ch", 1, none, none}, {ch, "cc", 0, []int{1}, []int{1}}, {ch, "h", 0, none, none},
		{ch, "CH", 0, none, []int{2, 1}}, {ch, "Ch", 0, none, []int{2, 1}}, {ch, "cH", 0, []int{1}, []int{2, 1}},
		{set("ch"), "ch", 0, []int{2}, []int{2}}, {set("ch"), "c", 0, none, none}, {set("ch"), "CHx", 0, none, []int{2}}, {set("ch"), "xch", 1, []int{2}, []int{2}}, {set("ch"), "", 0, none, none},
		// The most first, each once, in whatever order texts stand.
		{many, "chch", 0, []int{4, 3, 2, 1}, []int{4, 3, 2, 1}}, {many, "chc", 0, []int{3, 2, 1}, []int{3, 2, 1}}, {many, "chx", 0, []int{2, 1}, []int{2, 1}}, {many, "cx", 0, []int{1}, []int{1}}, {many, "xy", 0, []int{2}, []int{2}}, {many, "abcd", 0, []int{4, 1}, []int{4, 1}}, {many, "abc", 0, []int{1}, []int{1}}, {many, "CHch", 0, none, []int{4, 3, 2, 1}},
		{set("ab a abc ab a abc"), "abc", 0, []int{3, 2, 1}, []int{3, 2, 1}}, {set("abc ab a"), "abc", 0, []int{3, 2, 1}, []int{3, 2, 1}},
		// Of any size; that of none is nothing.
		{set("a"), "a", 0, []int{1}, []int{1}}, {set("a"), "A", 0, none, []int{1}}, {set("a", span('a', 'a')), "a", 0, []int{1}, []int{1}}, {set("abcdefgh"), "abcdefghi", 0, []int{8}, []int{8}},
		{api.Bracket{Texts: [][]api.Cell{nil, {}, {'a'}}}, "a", 0, []int{1}, []int{1}}, {api.Bracket{Texts: [][]api.Cell{nil, {}}}, "a", 0, none, none}, {api.Bracket{Texts: [][]api.Cell{{}, nil}}, "", 0, none, none},
		// Not is of cells alone.
		{notIn(ch), "ch", 0, []int{2}, []int{2}}, {notIn(ch), "CH", 0, []int{1}, []int{2}}, {notIn(ch), "c", 0, none, none}, {notIn(ch), "h", 0, []int{1}, []int{1}}, {notIn(set("ch")), "ch", 0, []int{2, 1}, []int{2, 1}}, {notIn(set("a")), "a", 0, []int{1}, []int{1}},
		// All cells of a text must be alike, each to the one at its own place.
		{set("iſ"), "Is", 0, none, []int{2}}, {set("is"), "İſ", 0, none, []int{2}}, {set("aab"), "aaab", 0, none, none}, {set("aab"), "aaab", 1, []int{3}, []int{3}}, {set("\xff\xfe"), "\xff\xfe", 0, []int{2}, []int{2}}, {set("\xff\xfe"), "\xfe\xff", 0, none, none},
	} {
		a.takes(x.set, x.text, x.at, x.want, x.folded)
	}
}

func TestLengthsAtAnyPlace(t *testing.T) {
	a := askWhole(t)
	l := cell.Of("abch")
	for _, s := range []api.Bracket{{}, notIn(api.Bracket{}), set("ch ab", span('a', 'z')), notIn(set("ch ab abch", span('a', 'b'))), {Texts: [][]api.Cell{{}}}} {
		for _, at := range []int{-1, -2, -4, -5, math.MinInt, math.MinInt + 1, 4, 5, 1 << 40, math.MaxInt, math.MaxInt - 1} {
			a.expectLengths(s, l, at)
			for _, table := range []asking{a, {}} {
				if got := bracket.Lengths(s, l, at, table.table); len(got) != 0 {
					t.Errorf("Lengths(%s) at %d = %v", shown(s), at, got)
				}
			}
		}
		for at := range 4 {
			a.expectLengths(s, l, at)
		}
	}
}

// Each cell is taken by a set, or by what it is not.
func TestEitherSetTakes(t *testing.T) {
	plain, whole := askPlain(t), askWhole(t)
	r := rand.New(rand.NewSource(19))
	for _, a := range []asking{plain, whole} {
		for n := 0; n < 300; {
			text := someText(r)
			if len(text) > 0 && text[0] == '^' {
				continue
			}
			s, to, e, _ := bracket.Parse(text, 0, a.table)
			not, notTo, notE, _ := bracket.Parse(append([]api.Cell{'^'}, text...), 0, a.table)
			if e != notE {
				t.Fatalf("%s is none: %d, what it is not: %d", cell.Text(text), e, notE)
			}
			if e != api.OK {
				continue
			}
			n++
			if !not.Not || s.Not || !slices.Equal(s.Ranges, not.Ranges) || len(not.Texts) != 0 || notTo != to+1 {
				t.Fatalf("%s is %v at %d, what it is not: %v at %d", cell.Text(text), s, to, not, notTo)
			}
			for _, c := range someCells {
				l := []api.Cell{c}
				for _, table := range []asking{a, {}} {
					one, other := bracket.Lengths(s, l, 0, table.table), bracket.Lengths(not, l, 0, table.table)
					if all := append(one, other...); !slices.Equal(all, []int{1}) {
						t.Fatalf("%x: %s takes %v in all", c, cell.Text(text), all)
					}
				}
			}
		}
	}
}

// What a bracket's items tell, it takes: names, classes, and all that is as good as another one.
func TestLengthsOfBrackets(t *testing.T) {
	a := askWhole(t)
	for _, x := range []struct {
		text, cells  string
		want, folded []int
	}{
		{"[.ch.]]", "ch", []int{2}, []int{2}}, {"[.ch.]]", "c", nil, nil}, {"[=c=]]", "ch", []int{2, 1}, []int{2, 1}}, {"[=c=]]", "Ch", []int{2}, []int{2, 1}}, {"[=c=]]", "CH", nil, []int{2, 1}}, {"d-c]", "chx", []int{2, 1}, []int{2, 1}}, {"^[=c=]]", "ch", nil, nil}, {"^[.ch.]]", "ch", []int{1}, []int{1}}, {"^[.ch.]]", "Ch", []int{1}, []int{1}},
		{"[:over:]]", "b", []int{1}, []int{1}}, {"[:over:]]", "A", nil, []int{1}}, {"[=a=]]", "á", []int{1}, []int{1}}, {"[=a=]]", "Á", nil, nil}, {"[=d=]]", "abcd", []int{4}, []int{4}}, {"[.z.]]", "z", nil, nil}, {"[.z.]]", "xy", []int{2}, []int{2}}, {"[.dash.]-[]", "-]", []int{2}, []int{2}}, {"é-\U0010ffff]", "ü", []int{1}, []int{1}},
	} {
		s, _, e, _ := bracket.Parse(cell.Of(x.text), 0, a.table)
		if e != api.OK {
			t.Errorf("Parse(%s): %d", x.text, e)
		}
		a.takes(s, x.cells, 0, x.want, x.folded)
	}
}

// someSet is a set of whatever ranges and texts, those that Parse never tells too.
func someSet(r *rand.Rand) api.Bracket {
	some := func() api.Cell { return someCells[r.Intn(len(someCells))] }
	s := api.Bracket{Not: r.Intn(2) == 0}
	for range r.Intn(4) {
		low := some()
		s.Ranges = append(s.Ranges, span(low, []api.Cell{low, low + 1, some()}[r.Intn(3)]))
	}
	for range r.Intn(4) {
		s.Texts = append(s.Texts, someRow(r, 5))
	}
	return s
}

// someRow are fewer cells than so many, mostly such that become others.
func someRow(r *rand.Rand, most int) []api.Cell {
	l := make([]api.Cell, r.Intn(most))
	for i := range l {
		l[i] = []api.Cell{'a', 'A', 'a', 'A', someCells[r.Intn(len(someCells))]}[r.Intn(5)]
	}
	return l
}

func TestLengthsOfAny(t *testing.T) {
	r := rand.New(rand.NewSource(20))
	texts := 0
	for _, a := range []asking{askPlain(t), askWhole(t)} {
		for range 20000 {
			s, l := someSet(r), someRow(r, 9)
			at := r.Intn(len(l)+3) - 1
			a.expectLengths(s, l, at)
			if n := bracket.Lengths(s, l, at, a.table); len(n) > 0 && n[0] > 1 {
				texts++
			}
		}
	}
	if texts < 1000 {
		t.Errorf("%d times a text: too few to tell anything", texts)
	}
}
