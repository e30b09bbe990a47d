package locale_test

import (
	"fmt"
	"regexp"
	"slices"
	"strings"
	"testing"

	"redactor/api"
	"redactor/cell"
	"redactor/lex"
	"redactor/locale"
)

// forms are how each kind of line goes on behind its first word: of each state what may stand there, and the state to which it leads.
var forms = map[string][]string{
	"class":             {"w1", "s2", ".3;1e5", "s4", ";1e5"},
	"toupper":           {"(1", "s2", ",3", "s4", ")5", ";0e6"},
	"tolower":           {"(1", "s2", ",3", "s4", ")5", ";0e6"},
	"collating-element": {"n1", "f2", "q3", "e4"},
	"order":             {"s1n2", ".3;4e6", ";4e6", "s5", "s5n5", "e6"},
}

// isA says whether a token is what a letter of the forms stands for.
func isA(letter byte, t api.Token) bool {
	switch letter {
	case 'w':
		return t.Kind == api.Word
	case 'f':
		return t.Kind == api.Word && t.Text == "from"
	case 's':
		return t.Kind == api.Scalar
	case 'n':
		return t.Kind == api.Name
	case 'q':
		return t.Kind == api.Quoted
	case 'e':
		return t.Kind == api.EndTok
	case '.':
		return t.Kind == api.Sign && t.Text == "..."
	}
	return t.Kind == api.Sign && t.Text == string(letter)
}

// leads is the state to which a token leads; -1: it may not stand there.
func leads(ways string, t api.Token) int {
	for i := 0; i < len(ways); i += 2 {
		if isA(ways[i], t) {
			return int(ways[i+1] - '0')
		}
	}
	return -1
}

// misplaced is the place in a line of the first token that may not stand there; -1: there is none.
func misplaced(line []api.Token) int {
	form := forms[line[0].Text]
	if line[0].Kind != api.Word || form == nil {
		return 0
	}
	state := 0
	for i := 1; i < len(line); i++ {
		state = leads(form[state], line[i])
		if state < 0 || isA('.', line[i-1]) && line[i].N < line[i-2].N {
			return i
		}
	}
	return -1
}

// known is what the lines ahead have told.
type known struct {
	api.Locale
	declared map[string][]api.Cell
}

// cells are those of an item; nil: of a name that is not declared.
func (k *known) cells(t api.Token) []api.Cell {
	if t.Kind == api.Scalar {
		return []api.Cell{api.Cell(t.N)}
	}
	return k.declared[t.Text]
}

func (k *known) place(cells []api.Cell) int {
	return slices.IndexFunc(k.Order, func(e api.Elem) bool { return slices.Equal(e.Cells, cells) })
}

func isScalar(c api.Cell) bool { return c >= 0 && c <= 0x10ffff && (c < 0xd800 || c > 0xdfff) }

// upTo are the scalars from one to another one.
func upTo(from, to int) []api.Cell {
	var l []api.Cell
	for n := from; n <= to; n++ {
		if isScalar(api.Cell(n)) {
			l = append(l, api.Cell(n))
		}
	}
	return l
}

// wrongAt is what is wrong with a line's token beside the form: the line is in form up to some place (-1: all of it).
func (k *known) wrongAt(line []api.Token, i, inForm int) api.Errno {
	t := line[i]
	switch line[0].Text {
	case "class":
		if i == 1 && slices.ContainsFunc(k.Classes, func(c api.Class) bool { return c.Name == t.Text }) {
			return api.ErrTwice
		}
	case "toupper", "tolower":
		return k.wrongPair(line, i)
	case "collating-element":
		if i == 1 && k.declared[t.Text] != nil {
			return api.ErrTwice
		}
		if n := len(cell.Of(t.Text)); i == 3 && (n < 2 || n > 4) {
			return api.ErrLong
		}
	case "order":
		return k.wrongItem(line, i, inForm)
	}
	return api.OK
}

func (k *known) wrongPair(line []api.Token, i int) api.Errno {
	pairs := k.Upper
	if line[0].Text == "tolower" {
		pairs = k.Lower
	}
	if !isA('(', line[i-1]) {
		return api.OK
	}
	for j := 2; j < i; j++ {
		if isA('(', line[j-1]) && line[j].N == line[i].N {
			return api.ErrTwice
		}
	}
	for _, p := range pairs {
		if int(p.From) == line[i].N {
			return api.ErrTwice
		}
	}
	return api.OK
}

func (k *known) wrongItem(line []api.Token, i, inForm int) api.Errno {
	cells := k.cells(line[i])
	switch {
	case i == 1 && cells == nil:
		return api.ErrName
	case i == 3 && isA(';', line[2]) && (cells == nil || k.place(cells) < 0):
		return api.ErrName
	case i != 1:
		return api.OK
	case isA('s', line[1]) && isA('.', line[2]):
		if inForm == 2 || inForm == 3 {
			return api.OK
		}
		for _, e := range k.Order {
			if len(e.Cells) == 1 && line[1].N <= int(e.Cells[0]) && int(e.Cells[0]) <= line[3].N {
				return api.ErrTwice
			}
		}
		if len(k.Order)+len(upTo(line[1].N, line[3].N)) > 500 {
			return api.ErrLong
		}
	case k.place(cells) >= 0:
		return api.ErrTwice
	case len(k.Order) >= 500:
		return api.ErrLong
	}
	return api.OK
}

// learn adds what a line that is right says.
func (k *known) learn(line []api.Token) {
	switch line[0].Text {
	case "class":
		c := api.Class{Name: line[1].Text}
		for i, t := range line {
			if isA('s', t) && isA('.', line[i-1]) {
				c.Ranges[len(c.Ranges)-1].High = api.Cell(t.N)
			} else if isA('s', t) {
				c.Ranges = append(c.Ranges, api.Range{Low: api.Cell(t.N), High: api.Cell(t.N)})
			}
		}
		k.Classes = append(k.Classes, c)
	case "toupper":
		k.Upper = append(k.Upper, pairsOf(line)...)
	case "tolower":
		k.Lower = append(k.Lower, pairsOf(line)...)
	case "collating-element":
		k.declared[line[1].Text] = cell.Of(line[3].Text)
	case "order":
		k.learnOrder(line)
	}
}

func pairsOf(line []api.Token) []api.Pair {
	var l []api.Pair
	for i, t := range line {
		if isA('(', t) {
			l = append(l, api.Pair{From: api.Cell(line[i+1].N), To: api.Cell(line[i+3].N)})
		}
	}
	return l
}

func (k *known) learnOrder(line []api.Token) {
	n := len(k.Order)
	if isA('.', line[2]) {
		for i, c := range upTo(line[1].N, line[3].N) {
			k.Order = append(k.Order, api.Elem{Cells: []api.Cell{c}, Same: n + i})
		}
		return
	}
	e := api.Elem{Name: line[1].Text, Cells: k.cells(line[1]), Same: n}
	if isA(';', line[2]) {
		e.Same = k.Order[k.place(k.cells(line[3]))].Same
	}
	k.Order = append(k.Order, e)
}

// parsed is what Parse must answer, told without it.
func parsed(s string) (api.Locale, api.Errno, int) {
	tokens, err, at := lex.Tokens(s)
	if err != api.OK {
		return api.Locale{}, err, at
	}
	k := known{declared: map[string][]api.Cell{}}
	for len(tokens) > 0 {
		end := slices.IndexFunc(tokens, func(t api.Token) bool { return isA('e', t) }) + 1
		line := tokens[:end]
		tokens = tokens[end:]
		wrong := misplaced(line)
		for i, t := range line {
			if i == wrong {
				return api.Locale{}, api.ErrForm, t.At
			}
			if i == 0 {
				continue
			}
			if e := k.wrongAt(line, i, wrong); e != api.OK {
				return api.Locale{}, e, t.At
			}
		}
		k.learn(line)
	}
	return k.Locale, api.OK, 0
}

var (
	wordForm   = regexp.MustCompile(`^[-_a-zA-Z0-9]+$`)
	scalarForm = regexp.MustCompile(`^U[0-9a-fA-F]{4,6}$`)
)

// bytesOf are a cell's bytes.
func bytesOf(c api.Cell) string {
	if c < 0 {
		return string([]byte{byte(-1 - c)})
	}
	return string(rune(c))
}

func textOf(l []api.Cell) string {
	s := ""
	for _, c := range l {
		s += bytesOf(c)
	}
	return s
}

// right is what Right must answer, told without it.
func right(l api.Locale) bool {
	for i, c := range l.Classes {
		if !wordForm.MatchString(c.Name) || len(c.Ranges) == 0 {
			return false
		}
		for _, r := range c.Ranges {
			if !isScalar(r.Low) || !isScalar(r.High) || r.High < r.Low {
				return false
			}
		}
		for _, other := range l.Classes[:i] {
			if other.Name == c.Name {
				return false
			}
		}
	}
	return areRight(l.Upper) && areRight(l.Lower) && isRightOrder(l.Order)
}

func areRight(l []api.Pair) bool {
	for i, p := range l {
		if !isScalar(p.From) || !isScalar(p.To) {
			return false
		}
		for _, other := range l[:i] {
			if other.From == p.From {
				return false
			}
		}
	}
	return true
}

func isRightOrder(l []api.Elem) bool {
	if len(l) > 500 {
		return false
	}
	for i, e := range l {
		if len(e.Cells) == 1 && (!isScalar(e.Cells[0]) || e.Name != "") || len(e.Cells) != 1 && !isRightElem(e) {
			return false
		}
		for _, other := range l[:i] {
			if other.Name == e.Name && e.Name != "" || slices.Equal(other.Cells, e.Cells) {
				return false
			}
		}
		if e.Same < 0 || e.Same > i || l[e.Same].Same != e.Same {
			return false
		}
	}
	return true
}

func isRightElem(e api.Elem) bool {
	if len(e.Cells) < 2 || len(e.Cells) > 4 || !wordForm.MatchString(e.Name) || scalarForm.MatchString(e.Name) {
		return false
	}
	for _, c := range e.Cells {
		if c < -256 || c >= 0 && !isScalar(c) {
			return false
		}
	}
	text := textOf(e.Cells)
	return slices.Equal(cell.Of(text), e.Cells) && !strings.ContainsAny(text, "\"\n")
}

// printed is what Print must answer, told without it.
func printed(l api.Locale) (string, api.Errno) {
	if !right(l) {
		return "", api.ErrArg
	}
	var rows []string
	for _, c := range l.Classes {
		var items []string
		for _, r := range c.Ranges {
			item := scalarText(r.Low)
			if r.High > r.Low {
				item += " ... " + scalarText(r.High)
			}
			items = append(items, item)
		}
		rows = append(rows, "class "+c.Name+" "+strings.Join(items, " ; "))
	}
	rows = append(rows, pairsText("toupper", l.Upper)...)
	rows = append(rows, pairsText("tolower", l.Lower)...)
	for _, e := range l.Order {
		if e.Name != "" {
			rows = append(rows, fmt.Sprintf("collating-element <%s> from \"%s\"", e.Name, textOf(e.Cells)))
		}
	}
	for i, e := range l.Order {
		row := "order " + itemText(e)
		if e.Same != i {
			row += " ; " + itemText(l.Order[e.Same])
		}
		rows = append(rows, row)
	}
	s := strings.Join(append(rows, ""), "\n")
	// More than 1000 tokens would be refused as they are read.
	if _, err, _ := lex.Tokens(s); err != api.OK {
		return "", api.ErrLong
	}
	return s, api.OK
}

func pairsText(word string, l []api.Pair) []string {
	var items []string
	for _, p := range l {
		items = append(items, "( "+scalarText(p.From)+" , "+scalarText(p.To)+" )")
	}
	if items == nil {
		return nil
	}
	return []string{word + " " + strings.Join(items, " ; ")}
}

func scalarText(c api.Cell) string { return fmt.Sprintf("<U%04X>", int(c)) }

func itemText(e api.Elem) string {
	if e.Name == "" {
		return scalarText(e.Cells[0])
	}
	return "<" + e.Name + ">"
}

// equal says whether two locales are the same thing; no list and an empty one are.
func equal(a, b api.Locale) bool {
	return slices.EqualFunc(a.Classes, b.Classes, func(x, y api.Class) bool {
		return x.Name == y.Name && slices.Equal(x.Ranges, y.Ranges)
	}) && slices.Equal(a.Upper, b.Upper) && slices.Equal(a.Lower, b.Lower) && slices.EqualFunc(a.Order, b.Order, func(x, y api.Elem) bool {
		return x.Name == y.Name && slices.Equal(x.Cells, y.Cells) && x.Same == y.Same
	})
}

// check holds all promises about a text against the test's own calls.
func check(t *testing.T, s string) {
	t.Helper()
	l, e, at := locale.Parse(s)
	want, wantE, wantAt := parsed(s)
	if !equal(l, want) || e != wantE || at != wantAt {
		t.Fatalf("Parse(%q) = %v, %d, %d, want %v, %d, %d", s, l, e, at, want, wantE, wantAt)
	}
	if !locale.Right(l) {
		t.Fatalf("Parse(%q) = %v, which is not right", s, l)
	}
	checkLocale(t, l)
}

// checkLocale holds all promises about a locale against the test's own calls.
func checkLocale(t *testing.T, l api.Locale) {
	t.Helper()
	if got, want := locale.Right(l), right(l); got != want {
		t.Fatalf("Right(%v) = %v, want %v", l, got, want)
	}
	s, e := locale.Print(l)
	want, wantE := printed(l)
	if s != want || e != wantE {
		t.Fatalf("Print(%v) = %q, %d, want %q, %d", l, s, e, want, wantE)
	}
	if e != api.OK {
		return
	}
	back, e, at := locale.Parse(s)
	if !equal(back, l) || e != api.OK || at != 0 {
		t.Fatalf("Parse(%q) = %v, %d, %d, want %v", s, back, e, at, l)
	}
}
