package bracket_test

import (
	"regexp"
	"slices"
	"strings"
	"testing"

	"redactor/api"
	"redactor/bracket"
	"redactor/cell"
	"redactor/collate"
	"redactor/locale"
)

// told is a locale that is asked without a table.
type told struct{ api.Locale }

func (l told) class(name []api.Cell) ([]api.Range, bool) {
	for _, c := range l.Classes {
		if slices.Equal(cell.Of(c.Name), name) {
			return c.Ranges, true
		}
	}
	return nil, false
}

func (l told) rank(cells []api.Cell) int {
	return slices.IndexFunc(l.Order, func(e api.Elem) bool { return slices.Equal(e.Cells, cells) })
}

// named are the cells of an element, by its name or by themselves; nothing: there is none.
func (l told) named(cells []api.Cell) []api.Cell {
	for _, e := range l.Order {
		if len(e.Cells) > 1 && slices.Equal(cell.Of(e.Name), cells) {
			return e.Cells
		}
	}
	// The text of one cell is one scalar just where it is shown as it is.
	if len(cells) == 1 && cells[0] >= 0x20 && cells[0] <= 0x7e && cells[0] != '\\' {
		return cells
	}
	if l.rank(cells) >= 0 {
		return cells
	}
	return nil
}

func (l told) alike(cells []api.Cell) [][]api.Cell {
	own := l.rank(cells)
	if own < 0 {
		return [][]api.Cell{cells}
	}
	var all [][]api.Cell
	for _, e := range l.Order {
		if e.Same == l.Order[own].Same {
			all = append(all, e.Cells)
		}
	}
	return all
}

func becomes(pairs []api.Pair, c api.Cell) api.Cell {
	for _, p := range pairs {
		if p.From == c {
			return p.To
		}
	}
	return c
}

// folds are all that count as one with a cell; of no locale it is it alone.
func (l *told) folds(c api.Cell) []api.Cell {
	if l == nil {
		return []api.Cell{c}
	}
	upper, lower := becomes(l.Upper, c), becomes(l.Lower, c)
	return []api.Cell{c, upper, lower, becomes(l.Lower, upper), becomes(l.Upper, lower)}
}

func (l *told) areAlike(a, b api.Cell) bool {
	return slices.Contains(l.folds(a), b) || slices.Contains(l.folds(b), a)
}

// lengths are found by asking of each number whether a set takes so many cells.
func (l *told) lengths(s api.Bracket, cells []api.Cell, at int) []int {
	var all []int
	for n := len(cells) - max(at, 0); n > 0 && at >= 0; n-- {
		if l.takes(s, cells[at:at+n]) {
			all = append(all, n)
		}
	}
	return all
}

func (l *told) takes(s api.Bracket, cells []api.Cell) bool {
	if slices.ContainsFunc(s.Texts, func(text []api.Cell) bool { return slices.EqualFunc(text, cells, l.areAlike) }) {
		return true
	}
	in := false
	for _, r := range s.Ranges {
		for _, c := range l.folds(cells[0]) {
			in = in || c >= r.Low && c <= r.High
		}
	}
	return len(cells) == 1 && in != s.Not
}

// shape has a sign for each cell: those that a bracket knows, and x for all others.
func shape(cells []api.Cell) string {
	var s strings.Builder
	for _, c := range cells {
		if c < 0 || c > 0x7f || !strings.ContainsRune("^-[]:=.", rune(c)) {
			c = 'x'
		}
		s.WriteByte(byte(c))
	}
	return s.String()
}

var (
	classShape   = regexp.MustCompile(`^\[:[^:]*:\]`)
	alikeShape   = regexp.MustCompile(`^\[=[^=]+=\]`)
	nameShape    = regexp.MustCompile(`^\[\.[^.]+\.\]`)
	throughShape = regexp.MustCompile(`^-[^]]`)
)

// looking goes through a bracket by what it looks like; the first error stays.
type looking struct {
	told
	cells []api.Cell
	shape string
	at    int
	set   api.Bracket
	err   api.Errno
	wrong int
}

func (l told) parse(cells []api.Cell, at int) (api.Bracket, int, api.Errno, int) {
	k := &looking{told: l, cells: cells, shape: shape(cells), at: min(max(at, 0), len(cells))}
	k.set.Not = strings.HasPrefix(k.rest(), "^")
	if k.set.Not {
		k.at++
	}
	for first := true; k.err == 0 && (first || !strings.HasPrefix(k.rest(), "]")); first = false {
		k.item()
	}
	if k.err != 0 {
		return api.Bracket{}, 0, k.err, k.wrong
	}
	if k.set.Not {
		k.set.Texts = nil
	}
	return k.set, k.at + 1, 0, 0
}

func (k *looking) rest() string { return k.shape[k.at:] }

func (k *looking) fail(err api.Errno, at int) {
	if k.err == 0 {
		k.err, k.wrong = err, at
	}
}

// inner are the cells within two signs on both sides, if they look so.
func (k *looking) inner(looks *regexp.Regexp) []api.Cell {
	n := len(looks.FindString(k.rest()))
	if n == 0 {
		k.fail(30, len(k.cells))
		return nil
	}
	k.at += n
	return k.cells[k.at-n+2 : k.at-2]
}

func (k *looking) item() {
	begin := k.at
	switch {
	case strings.HasPrefix(k.rest(), "[:"):
		ranges, is := k.class(k.inner(classShape))
		if !is {
			k.fail(31, begin)
		}
		k.set.Ranges = append(k.set.Ranges, ranges...)
	case strings.HasPrefix(k.rest(), "[="):
		cells := k.named(k.inner(alikeShape))
		if cells == nil {
			k.fail(31, begin)
		}
		k.add(k.alike(cells))
	default:
		k.elements()
	}
}

func (k *looking) elements() {
	first := k.element()
	at := k.at
	if k.err != 0 || !throughShape.MatchString(k.rest()) {
		k.add([][]api.Cell{first})
		return
	}
	k.at++
	last := k.element()
	if k.err != 0 {
		return
	}
	from, to := k.rank(first), k.rank(last)
	byNumber := len(first) == 1 && len(last) == 1 && min(from, to) < 0
	switch {
	case byNumber && first[0] <= last[0]:
		k.set.Ranges = append(k.set.Ranges, api.Range{Low: first[0], High: last[0]})
	case byNumber || from < 0 || from > to:
		k.fail(40, at)
	default:
		for _, e := range k.Order[from : to+1] {
			k.add([][]api.Cell{e.Cells})
		}
	}
}

func (k *looking) element() []api.Cell {
	begin := k.at
	if strings.HasPrefix(k.rest(), "[.") {
		cells := k.named(k.inner(nameShape))
		if cells == nil {
			k.fail(31, begin)
		}
		return cells
	}
	if k.rest() == "" {
		k.fail(30, len(k.cells))
		return nil
	}
	k.at++
	return k.cells[begin : begin+1]
}

func (k *looking) add(rows [][]api.Cell) {
	for _, l := range rows {
		if len(l) == 1 {
			k.set.Ranges = append(k.set.Ranges, api.Range{Low: l[0], High: l[0]})
		} else {
			k.set.Texts = append(k.set.Texts, l)
		}
	}
}

func span(low, high api.Cell) api.Range { return api.Range{Low: low, High: high} }

// set is one of these ranges and of the words of a text.
func set(words string, ranges ...api.Range) api.Bracket {
	s := api.Bracket{Ranges: ranges}
	for word := range strings.FieldsSeq(words) {
		s.Texts = append(s.Texts, cell.Of(word))
	}
	return s
}

func notIn(s api.Bracket) api.Bracket {
	s.Not = true
	return s
}

// shown is a set as a text: a range of one cell as it, a text behind =.
func shown(s api.Bracket) string {
	var words []string
	if s.Not {
		words = append(words, "not")
	}
	for _, r := range s.Ranges {
		word := cell.Text([]api.Cell{r.Low})
		if r.High != r.Low {
			word += ".." + cell.Text([]api.Cell{r.High})
		}
		words = append(words, word)
	}
	for _, l := range s.Texts {
		words = append(words, "="+cell.Text(l))
	}
	return strings.Join(words, " ")
}

// same says whether two sets are the same thing; no list and an empty one are.
func same(a, b api.Bracket) bool {
	return a.Not == b.Not && slices.Equal(a.Ranges, b.Ranges) && slices.EqualFunc(a.Texts, b.Texts, slices.Equal)
}

// copied is a set in memory of its own.
func copied(s api.Bracket) api.Bracket {
	s.Ranges, s.Texts = slices.Clone(s.Ranges), slices.Clone(s.Texts)
	for i := range s.Texts {
		s.Texts[i] = slices.Clone(s.Texts[i])
	}
	return s
}

// asking is a table, and the locale that brackets must be those of.
type asking struct {
	*testing.T
	*told
	table *collate.Table
}

func ask(t *testing.T, l api.Locale) asking {
	t.Helper()
	table := collate.New(l)
	if table == nil {
		t.Fatalf("New(%v) is nil", l)
	}
	return asking{T: t, told: &told{l}, table: table}
}

func askPlain(t *testing.T) asking { return ask(t, collate.Plain()) }

// askWhole is of a definition that has all that a bracket may ask for.
func askWhole(t *testing.T) asking {
	t.Helper()
	return ask(t, parsed(t, wholeText))
}

func parsed(t *testing.T, s string) api.Locale {
	t.Helper()
	l, e, at := locale.Parse(s)
	if e != api.OK {
		t.Fatalf("Parse(%q): %d at %d", s, e, at)
	}
	return l
}

// expect asks for a bracket, and holds it against the test's own; so it does what the set takes of all cells.
func (a asking) expect(l []api.Cell, at int) api.Errno {
	a.Helper()
	s, behind, e, wrong := bracket.Parse(l, at, a.table)
	want, wantBehind, wantE, wantWrong := a.parse(l, at)
	if !same(s, want) || behind != wantBehind || e != wantE || wrong != wantWrong {
		a.Fatalf("Parse(%s, %d) = %q, %d, %d, %d, want %q, %d, %d, %d", cell.Text(l), at, shown(s), behind, e, wrong, shown(want), wantBehind, wantE, wantWrong)
	}
	return e
}

// expectLengths asks how many cells a set takes, with the table and without one.
func (a asking) expectLengths(s api.Bracket, l []api.Cell, at int) {
	a.Helper()
	if got, want := bracket.Lengths(s, l, at, a.table), a.lengths(s, l, at); !slices.Equal(got, want) {
		a.Fatalf("Lengths(%s, %s, %d) = %v, want %v", shown(s), cell.Text(l), at, got, want)
	}
	if got, want := bracket.Lengths(s, l, at, nil), (*told)(nil).lengths(s, l, at); !slices.Equal(got, want) {
		a.Fatalf("Lengths(%s, %s, %d, nil) = %v, want %v", shown(s), cell.Text(l), at, got, want)
	}
}
