package collate_test

import (
	"slices"
	"testing"
	"unicode/utf8"

	"redactor/api"
	"redactor/cell"
	"redactor/collate"
	"redactor/locale"
)

// told is a locale that is asked without a table: each answer is looked for from the beginning on.
type told struct{ api.Locale }

func (l told) class(name string) ([]api.Range, bool) {
	for _, c := range l.Classes {
		if c.Name == name {
			return c.Ranges, true
		}
	}
	return nil, false
}

func (l told) is(name string, c api.Cell) bool {
	ranges, _ := l.class(name)
	for _, r := range ranges {
		if c >= r.Low && c <= r.High {
			return true
		}
	}
	return false
}

func becomes(pairs []api.Pair, c api.Cell) api.Cell {
	for _, p := range pairs {
		if p.From == c {
			return p.To
		}
	}
	return c
}

func (l told) fold(c api.Cell) []api.Cell {
	upper, lower := becomes(l.Upper, c), becomes(l.Lower, c)
	var all []api.Cell
	for _, x := range []api.Cell{c, upper, lower, becomes(l.Lower, upper), becomes(l.Upper, lower)} {
		at := 0
		for at < len(all) && all[at] < x {
			at++
		}
		if at == len(all) || all[at] != x {
			all = slices.Insert(all, at, x)
		}
	}
	return all
}

func (l told) rank(cells []api.Cell) int {
	for place, e := range l.Order {
		if slices.Equal(e.Cells, cells) {
			return place
		}
	}
	return -1
}

func (l told) named(name string) []api.Cell {
	for _, e := range l.Order {
		if len(e.Cells) > 1 && e.Name == name {
			return e.Cells
		}
	}
	r, size := utf8.DecodeRuneInString(name)
	if name == "" || size < len(name) || r == utf8.RuneError && size == 1 {
		return nil
	}
	return []api.Cell{api.Cell(r)}
}

func (l told) alike(cells []api.Cell) [][]api.Cell {
	own := l.rank(cells)
	if own < 0 {
		return [][]api.Cell{cells}
	}
	var all [][]api.Cell
	for _, e := range l.Order {
		if e.Same == l.Order[own].Same {
			all = append(all, e.Cells)
		}
	}
	return all
}

func (l told) between(a, b []api.Cell) ([][]api.Cell, api.Errno) {
	from, to := l.rank(a), l.rank(b)
	if from == -1 || to == -1 || from > to {
		return nil, 40
	}
	var all [][]api.Cell
	for place := from; place <= to; place++ {
		all = append(all, l.Order[place].Cells)
	}
	return all, 0
}

func sameRows(a, b [][]api.Cell) bool { return slices.EqualFunc(a, b, slices.Equal) }

// tableOf is a table of a locale that is right.
func tableOf(t *testing.T, l api.Locale) *collate.Table {
	t.Helper()
	table := collate.New(l)
	if table == nil {
		t.Fatalf("New(%v) is nil", l)
	}
	return table
}

// parsed is the locale of a definition.
func parsed(t *testing.T, s string) api.Locale {
	t.Helper()
	l, e, at := locale.Parse(s)
	if e != api.OK {
		t.Fatalf("Parse(%q): %d at %d", s, e, at)
	}
	return l
}

// asking is a table, and the locale that it must answer of; each question is counted.
type asking struct {
	*testing.T
	*collate.Table
	told
	asked int
}

func ask(t *testing.T, l api.Locale) *asking {
	t.Helper()
	return &asking{T: t, Table: tableOf(t, l), told: told{copied(l)}}
}

// expect says whether an answer is the right one, and that one call more was counted.
func (a *asking) expect(is bool, call string, asked, got, want any) {
	a.Helper()
	a.asked++
	if !is {
		a.Fatalf("%s(%v) = %v, want %v, of %v", call, asked, got, want, a.Locale)
	}
	if n := a.Asked(); n != a.asked {
		a.Fatalf("Asked() = %d after %s, want %d", n, call, a.asked)
	}
}

func (a *asking) askName(name string) {
	a.Helper()
	ranges, is := a.Class(name)
	want, wantIs := a.class(name)
	a.expect(slices.Equal(ranges, want) && is == wantIs, "Class", name, ranges, want)
	cells := a.Named(name)
	a.expect(slices.Equal(cells, a.named(name)), "Named", name, cells, a.named(name))
}

func (a *asking) askIs(name string, c api.Cell) {
	a.Helper()
	is := a.Is(name, c)
	a.expect(is == a.is(name, c), "Is "+name, c, is, !is)
}

func (a *asking) askCell(c api.Cell) {
	a.Helper()
	upper, want := a.Table.Upper(c), becomes(a.told.Upper, c)
	a.expect(upper == want, "Upper", c, upper, want)
	lower, want := a.Table.Lower(c), becomes(a.told.Lower, c)
	a.expect(lower == want, "Lower", c, lower, want)
	fold := a.Fold(c)
	a.expect(slices.Equal(fold, a.fold(c)), "Fold", c, fold, a.fold(c))
}

func (a *asking) askCells(l []api.Cell) {
	a.Helper()
	rank := a.Rank(l)
	a.expect(rank == a.rank(l), "Rank", l, rank, a.rank(l))
	alike := a.Alike(l)
	a.expect(sameRows(alike, a.alike(l)), "Alike", l, alike, a.alike(l))
}

func (a *asking) askBetween(from, to []api.Cell) {
	a.Helper()
	rows, e := a.Between(from, to)
	want, wantE := a.between(from, to)
	a.expect(sameRows(rows, want) && e == wantE, "Between", [][]api.Cell{from, to}, rows, want)
}

// copied is a locale in memory of its own.
func copied(l api.Locale) api.Locale {
	l.Classes, l.Upper, l.Lower, l.Order = slices.Clone(l.Classes), slices.Clone(l.Upper), slices.Clone(l.Lower), slices.Clone(l.Order)
	for i := range l.Classes {
		l.Classes[i].Ranges = slices.Clone(l.Classes[i].Ranges)
	}
	for i := range l.Order {
		l.Order[i].Cells = slices.Clone(l.Order[i].Cells)
	}
	return l
}

// equal says whether two locales are the same thing; no list and an empty one are.
func equal(a, b api.Locale) bool {
	return slices.EqualFunc(a.Classes, b.Classes, func(x, y api.Class) bool {
		return x.Name == y.Name && slices.Equal(x.Ranges, y.Ranges)
	}) && slices.Equal(a.Upper, b.Upper) && slices.Equal(a.Lower, b.Lower) && slices.EqualFunc(a.Order, b.Order, func(x, y api.Elem) bool {
		return x.Name == y.Name && slices.Equal(x.Cells, y.Cells) && x.Same == y.Same
	})
}

// edgeCells are scalars at the edges, escapes, and numbers that are no cells.
var edgeCells = []api.Cell{0, 1, '\n', '"', '\\', ' ', '0', '9', 'A', 'Z', 'a', 'b', 'c', 'z', 0x7f, 0x80, 0xe9, 0xd7ff, 0xd800, 0xdfff, 0xe000, 0xfffd, 0xffff, 0x10000, 0x10ffff, 0x110000, 1<<31 - 1, -1, -2, -98, -256, -257, -1 << 31}

// askAll asks of all that a locale tells, and of what lies beside it.
func (a *asking) askAll() {
	a.Helper()
	names := []string{"", "a", "A", "é", "\xff", "\xc3\xa9\xc3", "ab", "ch", "\n", "\\", "\\n", "�", "none", "upper"}
	cells := slices.Clone(edgeCells)
	rows := [][]api.Cell{nil, {'a'}, {'a', 'a'}, {'c', 'h'}, {-1}, {0xd800}, {'\\', '?'}, {'a', 'b', 'c', 'd', 'e'}, make([]api.Cell, 5000)}
	for _, c := range a.Classes {
		names = append(names, c.Name, c.Name+"x", c.Name[1:])
		for _, r := range c.Ranges {
			cells = append(cells, r.Low-1, r.Low, r.High, r.High+1)
		}
	}
	for _, p := range slices.Concat(a.told.Upper, a.told.Lower) {
		cells = append(cells, p.From-1, p.From, p.To)
	}
	for _, e := range a.Order {
		names = append(names, e.Name, cell.Text(e.Cells))
		rows = append(rows, e.Cells, e.Cells[1:], append(slices.Clone(e.Cells), 0))
	}
	for _, name := range names {
		a.askName(name)
	}
	for _, c := range cells {
		a.askCell(c)
		for _, class := range a.Classes {
			a.askIs(class.Name, c)
		}
		a.askIs("none", c)
		a.askIs("", c)
	}
	for i, l := range rows {
		a.askCells(l)
		a.askBetween(l, l)
		a.askBetween(l, rows[(i*7+3)%len(rows)])
		a.askBetween(rows[(i*5+1)%len(rows)], l)
	}
}
