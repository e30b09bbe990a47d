package lines_test

import (
	"math"
	"slices"
	"testing"

	"redactor/api"
	"redactor/cell"
	"redactor/lines"
)

// escapedEnd is the ESCAPE of the byte 0a.
const escapedEnd api.Cell = -11

func ended(s string) api.Line { return api.Line{Cells: cell.Of(s), Ended: true} }

func open(s string) api.Line { return api.Line{Cells: cell.Of(s)} }

// split is what Split must answer, told without it.
func split(l []api.Cell) []api.Line {
	var all []api.Line
	var line api.Line
	for _, c := range l {
		if c != 0x0a {
			line.Cells = append(line.Cells, c)
			continue
		}
		line.Ended = true
		all = append(all, line)
		line = api.Line{}
	}
	if len(line.Cells) > 0 {
		all = append(all, line)
	}
	return all
}

// join is what Join must answer, told without it.
func join(l []api.Line) []api.Cell {
	var all []api.Cell
	for _, line := range l {
		for _, c := range line.Cells {
			all = append(all, c)
		}
		if line.Ended {
			all = append(all, 0x0a)
		}
	}
	return all
}

// number is what Number must answer, told without it: backwards from the place.
func number(l []api.Cell, at int) (int, int) {
	if at < 0 || at > len(l) {
		return 0, 0
	}
	n, column, found := 1, 1, false
	for i := at - 1; i >= 0; i-- {
		if l[i] == 0x0a {
			n, found = n+1, true
		}
		if !found {
			column++
		}
	}
	return n, column
}

func sameLine(a, b api.Line) bool { return a.Ended == b.Ended && slices.Equal(a.Cells, b.Cells) }

func sameLines(a, b []api.Line) bool { return slices.EqualFunc(a, b, sameLine) }

// check holds all promises about a text against the test's own calls.
func check(t *testing.T, l []api.Cell) {
	t.Helper()
	got, want := lines.Split(l), split(l)
	if !sameLines(got, want) {
		t.Fatalf("Split(%d) = %v, want %v", l, got, want)
	}
	if back := lines.Join(got); !slices.Equal(back, l) {
		t.Fatalf("Join(Split(%d)) = %d", l, back)
	}
	if n := lines.Count(l); n != len(want) {
		t.Fatalf("Count(%d) = %d, want %d", l, n, len(want))
	}
	for at := -2; at <= len(l)+2; at++ {
		checkNumber(t, l, at)
	}
}

func checkNumber(t *testing.T, l []api.Cell, at int) {
	t.Helper()
	n, k := lines.Number(l, at)
	if wantN, wantK := number(l, at); n != wantN || k != wantK {
		t.Fatalf("Number(%d, %d) = %d, %d, want %d, %d", l, at, n, k, wantN, wantK)
	}
}

func expectSplit(t *testing.T, l []api.Cell, want ...api.Line) {
	t.Helper()
	if got := lines.Split(l); !sameLines(got, want) {
		t.Errorf("Split(%d) = %v, want %v", l, got, want)
	}
	if n := lines.Count(l); n != len(want) {
		t.Errorf("Count(%d) = %d, want %d", l, n, len(want))
	}
	if back := lines.Join(want); !slices.Equal(back, l) {
		t.Errorf("Join(%v) = %d, want %d", want, back, l)
	}
}

func expectNumber(t *testing.T, text string, at, n, k int) {
	t.Helper()
	if gotN, gotK := lines.Number(cell.Of(text), at); gotN != n || gotK != k {
		t.Errorf("Number(%q, %d) = %d, %d, want %d, %d", text, at, gotN, gotK, n, k)
	}
}

func TestExamples(t *testing.T) {
	expectSplit(t, []api.Cell{'a', 0x0a, 'b'}, ended("a"), open("b"))
	expectNumber(t, "a\nb", 2, 2, 1)
}

func TestSplit(t *testing.T) {
	for _, c := range []struct {
		text string
		want []api.Line
	}{
		{"", nil},
		{"\n", []api.Line{ended("")}},
		{"a", []api.Line{open("a")}},
		{"a\n", []api.Line{ended("a")}},
		{"\na", []api.Line{ended(""), open("a")}},
		{"abc\nde\nf", []api.Line{ended("abc"), ended("de"), open("f")}},
		{"abc\nde\nf\n", []api.Line{ended("abc"), ended("de"), ended("f")}},
		// Several ends one behind the other: alone, at the beginning, in the midst and at the end.
		{"\n\n", []api.Line{ended(""), ended("")}},
		{"\n\n\n", []api.Line{ended(""), ended(""), ended("")}},
		{"\n\na", []api.Line{ended(""), ended(""), open("a")}},
		{"a\n\n\nb", []api.Line{ended("a"), ended(""), ended(""), open("b")}},
		{"a\n\n", []api.Line{ended("a"), ended("")}},
		{"\n\na\n\nb\n\n", []api.Line{ended(""), ended(""), ended("a"), ended(""), ended("b"), ended("")}},
		// A line's end of two cells is none: the first one is the line's.
		{"a\r\nb\r\n", []api.Line{ended("a\r"), ended("b\r")}},
		{"\r\n\r", []api.Line{ended("\r"), open("\r")}},
		{"a\n\rb", []api.Line{ended("a"), open("\rb")}},
		{"\x00\n\x00", []api.Line{ended("\x00"), open("\x00")}},
		{"é\xff\n€\U0001f600", []api.Line{ended("é\xff"), open("€\U0001f600")}},
	} {
		expectSplit(t, cell.Of(c.text), c.want...)
	}
}

// alike are cells that are like 0a, to the eye or as some digits of a number, and numbers that are no cells.
var alike = []api.Cell{
	0x00, 0x09, 0x0b, 0x0c, 0x0d, 0x1c, 0x1d, 0x1e, 0x1f, 0x85, 0x2028, 0x2029, 0x240a, 0x2424, 0xfeff,
	'n', '\\', -0x0a, escapedEnd, -0x0c, -0x0e, -0x86,
	0x0a - 0x100, 0x10a, 0x0a00, 0xff0a, 0x1000a, 0x10000a,
	0xd80a, 0x11000a, 0x0a - 0x10000, 0x100000a, 0x0a000000, 0x0a + math.MinInt32, math.MaxInt32,
}

func TestAlike(t *testing.T) {
	for _, c := range alike {
		expectSplit(t, []api.Cell{c}, api.Line{Cells: []api.Cell{c}})
		expectSplit(t, []api.Cell{c, c}, api.Line{Cells: []api.Cell{c, c}})
		expectSplit(t, []api.Cell{'a', c, 'b'}, api.Line{Cells: []api.Cell{'a', c, 'b'}})
		expectSplit(t, []api.Cell{c, 0x0a, c}, api.Line{Cells: []api.Cell{c}, Ended: true}, api.Line{Cells: []api.Cell{c}})
		expectSplit(t, []api.Cell{0x0a, c, 0x0a}, ended(""), api.Line{Cells: []api.Cell{c}, Ended: true})
		for at := range 5 {
			checkNumber(t, []api.Cell{'a', c, 0x0a, c}, at)
		}
	}
}

// Of all cells, and of the numbers beside them, 0a alone ends a line.
func TestEveryNumberAround(t *testing.T) {
	l := make([]api.Cell, 1)
	for c := api.Cell(-600); c <= 0x110200; c++ {
		l[0] = c
		got := lines.Split(l)
		if c == 0x0a {
			if !sameLines(got, []api.Line{ended("")}) {
				t.Fatalf("Split(0a) = %v", got)
			}
			continue
		}
		if len(got) != 1 || got[0].Ended || !slices.Equal(got[0].Cells, l) || lines.Count(l) != 1 {
			t.Fatalf("Split(%x) = %v", c, got)
		}
	}
}

func TestJoin(t *testing.T) {
	for _, c := range []struct {
		lines []api.Line
		want  string
	}{
		{nil, ""},
		{[]api.Line{ended("a"), open("b")}, "a\nb"},
		{[]api.Line{ended("a"), ended("b")}, "a\nb\n"},
		// Lines that have nothing: with an end they are this, without one they are nothing.
		{[]api.Line{{}}, ""},
		{[]api.Line{{}, {}, {}}, ""},
		{[]api.Line{ended("")}, "\n"},
		{[]api.Line{ended(""), open(""), ended("")}, "\n\n"},
		{[]api.Line{open(""), ended("a"), open("")}, "a\n"},
		// Lines in the midst that are not ended run on.
		{[]api.Line{open("a"), open("b")}, "ab"},
		{[]api.Line{open("a"), ended("b"), open("c"), ended("d")}, "ab\ncd\n"},
		{[]api.Line{open("a"), ended(""), open(""), open("b")}, "a\nb"},
		// A 0a among a line's own cells stays, and counts for no end.
		{[]api.Line{ended("a\nb")}, "a\nb\n"},
		{[]api.Line{open("a\n"), open("b")}, "a\nb"},
		{[]api.Line{ended("a\n"), open("\nb")}, "a\n\n\nb"},
		{[]api.Line{ended("\n"), ended("\n\n")}, "\n\n\n\n\n"},
		{[]api.Line{open("\n")}, "\n"},
		{[]api.Line{ended("é\xff\r"), open("€\u2028")}, "é\xff\r\n€\u2028"},
	} {
		if got := lines.Join(c.lines); !slices.Equal(got, cell.Of(c.want)) {
			t.Errorf("Join(%v) = %d, want %q", c.lines, got, c.want)
		}
	}
}

// What is no cell is joined as it is: nothing is asked of a line's cells.
func TestJoinAlike(t *testing.T) {
	for _, c := range alike {
		l := []api.Line{{Cells: []api.Cell{c}}, {Cells: []api.Cell{c, 0x0a}, Ended: true}, {Cells: []api.Cell{c}}}
		if got := lines.Join(l); !slices.Equal(got, []api.Cell{c, c, 0x0a, 0x0a, c}) {
			t.Errorf("Join(%v) = %d", l, got)
		}
	}
}

func TestNumber(t *testing.T) {
	for _, c := range []struct {
		text string
		want [][2]int // of each place, from 0 on
	}{
		{"", [][2]int{{1, 1}}},
		{"a", [][2]int{{1, 1}, {1, 2}}},
		{"\n", [][2]int{{1, 1}, {2, 1}}},
		{"a\n", [][2]int{{1, 1}, {1, 2}, {2, 1}}},
		{"\na", [][2]int{{1, 1}, {2, 1}, {2, 2}}},
		{"\n\n", [][2]int{{1, 1}, {2, 1}, {3, 1}}},
		{"a\nb", [][2]int{{1, 1}, {1, 2}, {2, 1}, {2, 2}}},
		{"ab\n\ncde", [][2]int{{1, 1}, {1, 2}, {1, 3}, {2, 1}, {3, 1}, {3, 2}, {3, 3}, {3, 4}}},
		{"ab\n\n\n", [][2]int{{1, 1}, {1, 2}, {1, 3}, {2, 1}, {3, 1}, {4, 1}}},
		{"a\r\nb", [][2]int{{1, 1}, {1, 2}, {1, 3}, {2, 1}, {2, 2}}},
		// Cells are counted, not bytes.
		{"é€\n\U0001f600\xff", [][2]int{{1, 1}, {1, 2}, {1, 3}, {2, 1}, {2, 2}, {2, 3}}},
		{"\u2028a\u2029", [][2]int{{1, 1}, {1, 2}, {1, 3}, {1, 4}}},
	} {
		for at, want := range c.want {
			expectNumber(t, c.text, at, want[0], want[1])
		}
		for _, at := range []int{-1, -2, len(c.want), len(c.want) + 1} {
			expectNumber(t, c.text, at, 0, 0)
		}
	}
}

// A place below 0, or one more than there are cells, is none, however far off it is.
func TestNumberOfNoPlace(t *testing.T) {
	for _, text := range []string{"", "\n", "a", "a\n", "a\nb", "\n\n\n"} {
		n := len(cell.Of(text))
		for _, at := range []int{math.MinInt, math.MinInt + 1, math.MinInt32 - 1, math.MinInt32, -n - 1, -1, n + 1, n + 2, math.MaxInt32, math.MaxInt32 + 1, math.MaxInt - 1, math.MaxInt} {
			expectNumber(t, text, at, 0, 0)
		}
	}
}

func TestCount(t *testing.T) {
	for text, want := range map[string]int{
		"": 0, "a": 1, "\n": 1, "a\n": 1, "\na": 2, "a\nb": 2, "a\nb\n": 2, "\n\n": 2, "a\n\nb": 3, "\n\n\na": 4, "\r": 1, "\r\n\r": 2, "a\u2028b": 1,
	} {
		l := cell.Of(text)
		if n := lines.Count(l); n != want || n != len(lines.Split(l)) {
			t.Errorf("Count(%q) = %d, want %d", text, n, want)
		}
	}
}

// rows are all rows of up to most of some things.
func rows[T any](some []T, most int, visit func(l []T)) {
	var grow func(l []T)
	grow = func(l []T) {
		visit(l)
		for i := 0; i < len(some) && len(l) < most; i++ {
			grow(append(slices.Clone(l), some[i]))
		}
	}
	grow(nil)
}

// There and back of a text, whatever its cells are, with its numbers.
func TestThereAndBack(t *testing.T) {
	rows([]api.Cell{'a', 0x0a}, 11, func(l []api.Cell) { check(t, l) })
	rows([]api.Cell{'a', 0x0a, 0x0d, escapedEnd, 0x2028}, 5, func(l []api.Cell) { check(t, l) })
}

// isText says whether lines are those of a text: none has a 0a among its cells, and only the last one, if it has any cells, is not ended.
func isText(l []api.Line) bool {
	for i, line := range l {
		if slices.Contains(line.Cells, 0x0a) {
			return false
		}
		if !line.Ended && (i < len(l)-1 || len(line.Cells) == 0) {
			return false
		}
	}
	return true
}

// There and back of lines: those of a text stay as they are, others become those of a text that has the same cells.
func TestLinesThereAndBack(t *testing.T) {
	texts := 0
	some := []api.Line{ended(""), open(""), ended("a"), open("b"), ended("\n"), open("c\nd"), ended("\r")}
	rows(some, 5, func(l []api.Line) {
		joined := lines.Join(l)
		if !slices.Equal(joined, join(l)) {
			t.Fatalf("Join(%v) = %d", l, joined)
		}
		back := lines.Split(joined)
		if !isText(back) || !slices.Equal(lines.Join(back), joined) {
			t.Fatalf("Split(Join(%v)) = %v", l, back)
		}
		if isText(l) {
			texts++
		}
		if sameLines(back, l) != isText(l) {
			t.Fatalf("Split(Join(%v)) = %v", l, back)
		}
	})
	if texts == 0 {
		t.Error("no lines of a text were tried")
	}
}

// Number leads back to the cell: it stands there in its line, a 0a behind the last one of its line.
func TestNumberLeadsToTheCell(t *testing.T) {
	rows([]api.Cell{'a', 'b', 0x0a}, 7, func(l []api.Cell) {
		all := lines.Split(l)
		for at, c := range l {
			n, k := lines.Number(l, at)
			line := all[n-1]
			isEnd := k == len(line.Cells)+1 && line.Ended
			if isEnd != (c == 0x0a) || !isEnd && line.Cells[k-1] != c {
				t.Fatalf("Number(%d, %d) = %d, %d in %v", l, at, n, k, all)
			}
		}
	})
}
