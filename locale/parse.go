package locale

import (
	"slices"

	"redactor/api"
	"redactor/cell"
	"redactor/lex"
)

// Parse is what a definition says, or why it is none, and where.
func Parse(s string) (l api.Locale, err api.Errno, at int) {
	tokens, err, at := lex.Tokens(s)
	if err != api.OK {
		return api.Locale{}, err, at
	}
	r := reader{cursor: cursor{tokens: tokens}, declared: map[string][]api.Cell{}}
	defer func() {
		if wrong := recover(); wrong != nil {
			f := faultOf(wrong)
			err, at = f.err, f.at
		}
	}()
	r.read()
	return r.Locale, api.OK, 0
}

// cursor goes through tokens. An EndTok is the last one of each line, and is taken as nothing else, so that nobody comes to stand behind them all within a line.
type cursor struct {
	tokens []api.Token
	place  int
}

// take goes on behind the next token, which must be of one of these kinds.
func (c *cursor) take(kinds ...uint8) api.Token {
	t := c.tokens[c.place]
	if !slices.Contains(kinds, t.Kind) {
		refuse(api.ErrForm, t)
	}
	c.place++
	return t
}

// takeText goes on behind the next token, which must be this one.
func (c *cursor) takeText(kind uint8, text string) {
	if t := c.take(kind); t.Text != text {
		refuse(api.ErrForm, t)
	}
}

// skips goes on behind the next token, if it is this sign.
func (c *cursor) skips(sign string) bool {
	if t := c.tokens[c.place]; t.Kind != api.Sign || t.Text != sign {
		return false
	}
	c.place++
	return true
}

// items goes through one item or more, as item reads each of them.
func (c *cursor) items(item func()) {
	item()
	for c.skips(between) {
		item()
	}
}

// notBelow is the second scalar of a range that begins with the first.
func (c *cursor) notBelow(first api.Token) api.Token {
	second := c.take(api.Scalar)
	if second.N < first.N {
		refuse(api.ErrForm, second)
	}
	return second
}

// reader makes a locale of tokens; what is wrong panics.
type reader struct {
	cursor
	api.Locale
	declared map[string][]api.Cell
}

func (r *reader) read() {
	lines := r.lines()
	for r.place < len(r.tokens) {
		first := r.take(api.Word)
		line, is := lines[first.Text]
		if !is {
			refuse(api.ErrForm, first)
		}
		line()
		r.take(api.EndTok)
	}
}

// lines are what reads a line behind its first word, by that word.
func (r *reader) lines() map[string]func() {
	return map[string]func(){
		classWord:   r.classes(),
		upperWord:   r.pairs(&r.Upper),
		lowerWord:   r.pairs(&r.Lower),
		elementWord: r.element,
		orderWord:   r.order,
	}
}

func (r *reader) classes() func() {
	isNew := firstTime[string]()
	return func() {
		name := r.take(api.Word)
		if !isNew(name.Text) {
			refuse(api.ErrTwice, name)
		}
		class := api.Class{Name: name.Text}
		r.items(func() { class.Ranges = append(class.Ranges, r.scalars()) })
		r.Classes = append(r.Classes, class)
	}
}

// scalars are one, or all from one to another one.
func (r *reader) scalars() api.Range {
	first := r.take(api.Scalar)
	last := first
	if r.skips(through) {
		last = r.notBelow(first)
	}
	return api.Range{Low: api.Cell(first.N), High: api.Cell(last.N)}
}

func (r *reader) pairs(to *[]api.Pair) func() {
	isNew := firstTime[int]()
	return func() {
		r.items(func() {
			r.takeText(api.Sign, open)
			from := r.take(api.Scalar)
			if !isNew(from.N) {
				refuse(api.ErrTwice, from)
			}
			r.takeText(api.Sign, becomes)
			other := r.take(api.Scalar)
			r.takeText(api.Sign, shut)
			*to = append(*to, api.Pair{From: api.Cell(from.N), To: api.Cell(other.N)})
		})
	}
}

func (r *reader) element() {
	name := r.take(api.Name)
	if _, is := r.declared[name.Text]; is {
		refuse(api.ErrTwice, name)
	}
	r.takeText(api.Word, fromWord)
	text := r.take(api.Quoted)
	cells := cell.Of(text.Text)
	if len(cells) < leastElem || len(cells) > api.MaxElem {
		refuse(api.ErrLong, text)
	}
	r.declared[name.Text] = cells
}

func (r *reader) order() {
	first := r.take(api.Scalar, api.Name)
	if first.Kind == api.Scalar && r.skips(through) {
		r.addAll(first, r.notBelow(first))
		return
	}
	cells := r.cellsOf(first)
	if r.placeOf(cells) >= 0 {
		refuse(api.ErrTwice, first)
	}
	r.add(first, cells)
	if r.skips(between) {
		r.likeAnother(len(r.Order) - 1)
	}
}

// cellsOf are those of an item: a scalar, or the name of an element.
func (r *reader) cellsOf(item api.Token) []api.Cell {
	if item.Kind == api.Scalar {
		return []api.Cell{api.Cell(item.N)}
	}
	cells, is := r.declared[item.Text]
	if !is {
		refuse(api.ErrName, item)
	}
	return cells
}

// placeOf is where cells are in the order; -1: nowhere.
func (r *reader) placeOf(cells []api.Cell) int {
	return slices.IndexFunc(r.Order, func(e api.Elem) bool { return slices.Equal(e.Cells, cells) })
}

// add lays cells behind the order, as what is told of an item.
func (r *reader) add(item api.Token, cells []api.Cell) {
	if len(r.Order) == api.MaxOrder {
		refuse(api.ErrLong, item)
	}
	r.Order = append(r.Order, api.Elem{Name: item.Text, Cells: cells, Same: len(r.Order)})
}

// addAll lays each scalar from the first to the last one behind the order. What is twice goes ahead of what is too long, so that all are asked for before one is added.
func (r *reader) addAll(first, last api.Token) {
	low, high := api.Cell(first.N), api.Cell(last.N)
	if slices.ContainsFunc(r.Order, func(e api.Elem) bool { return len(e.Cells) == 1 && e.Cells[0] >= low && e.Cells[0] <= high }) {
		refuse(api.ErrTwice, first)
	}
	for c := low; c <= high; c++ {
		if isScalar(c) {
			r.add(first, []api.Cell{c})
		}
	}
}

// likeAnother makes the element at a place as good as the next item, which is in the order from a line ahead.
func (r *reader) likeAnother(own int) {
	item := r.take(api.Scalar, api.Name)
	other := r.placeOf(r.cellsOf(item))
	if other < 0 || other == own {
		refuse(api.ErrName, item)
	}
	r.Order[own].Same = r.Order[other].Same
}
