package bracket

import (
	"slices"

	"redactor/api"
	"redactor/cell"
	"redactor/collate"
)

// What stands for more than itself within a bracket.
const (
	not     api.Cell = '^'
	through api.Cell = '-'
	open    api.Cell = '['
	shut    api.Cell = ']'

	ofClass api.Cell = ':' // behind open, and ahead of shut
	ofAlike api.Cell = '='
	ofName  api.Cell = '.'
)

// fault is an error that was found at a place.
type fault struct {
	err api.Errno
	at  int
}

// cursor goes through cells; it is never beyond their end.
type cursor struct {
	cells []api.Cell
	at    int
}

func (c *cursor) rest() []api.Cell { return c.cells[c.at:] }

// takes goes on behind these signs, if they stand next.
func (c *cursor) takes(signs ...api.Cell) bool {
	rest := c.rest()
	if len(rest) < len(signs) || !slices.Equal(rest[:len(signs)], signs) {
		return false
	}
	c.at += len(signs)
	return true
}

// takesThrough goes on behind a sign between two elements: at the end of a bracket it is one itself.
func (c *cursor) takesThrough() bool {
	rest := c.rest()
	return len(rest) > 1 && rest[1] != shut && c.takes(through)
}

// take goes on behind the next cell, whatever it is.
func (c *cursor) take() api.Cell {
	rest := c.rest()
	if len(rest) == 0 {
		panic(api.ErrForm)
	}
	c.at++
	return rest[0]
}

// upTo are the cells ahead of a sign, which must be followed by what shuts.
func (c *cursor) upTo(sign api.Cell) []api.Cell {
	rest := c.rest()
	n := slices.Index(rest, sign)
	if n < 0 {
		panic(api.ErrForm)
	}
	c.at += n
	if !c.takes(sign, shut) {
		panic(api.ErrForm)
	}
	return rest[:n]
}

// reader makes a set of cells; its methods tell what they took, and panic at what is wrong.
type reader struct {
	cursor
	api.Bracket
	table *collate.Table
}

// whatIs is what was panicked with: an error at a place, or one of the whole, which is told at the end.
func (r *reader) whatIs(wrong any) (api.Errno, int) {
	switch w := wrong.(type) {
	case fault:
		return w.err, w.at
	case api.Errno:
		return w, len(r.cells)
	}
	// A fault of the program's own may not pass for a set.
	return api.ErrForm, len(r.cells)
}

func (r *reader) read() {
	r.Not = r.takes(not)
	// What shuts is a cell as the first item: nothing asks for it there.
	r.item()
	for !r.takes(shut) {
		r.item()
	}
	if r.Not {
		r.Texts = nil
	}
}

func (r *reader) item() {
	switch begin := r.at; {
	case r.takes(open, ofClass):
		r.Ranges = append(r.Ranges, r.class(begin)...)
	case r.takes(open, ofAlike):
		r.add(r.table.Alike(r.named(begin, ofAlike))...)
	default:
		r.elements()
	}
}

// class are the ranges of the class whose name stands next, in brackets that begin at a place.
func (r *reader) class(begin int) []api.Range {
	ranges, is := r.table.Class(cell.Text(r.upTo(ofClass)))
	if !is {
		panic(fault{api.ErrName, begin})
	}
	return ranges
}

// named are the cells of the element whose name, or cells, stand next, in brackets that begin at a place.
func (r *reader) named(begin int, sign api.Cell) []api.Cell {
	cells := r.upTo(sign)
	if len(cells) == 0 {
		panic(api.ErrForm)
	}
	if named := r.table.Named(cell.Text(cells)); len(named) > 0 {
		return named
	}
	if r.table.Rank(cells) < 0 {
		panic(fault{api.ErrName, begin})
	}
	return slices.Clone(cells)
}

// elements adds one, or all from one to another one.
func (r *reader) elements() {
	first := r.element()
	at := r.at
	if !r.takesThrough() {
		r.add(first)
		return
	}
	r.addBetween(first, r.element(), at)
}

// element is one by its name, or any one cell: also an open that would begin a class as an item.
func (r *reader) element() []api.Cell {
	begin := r.at
	if r.takes(open, ofName) {
		return r.named(begin, ofName)
	}
	return []api.Cell{r.take()}
}

// add lays elements behind all others.
func (r *reader) add(elements ...[]api.Cell) {
	for _, cells := range elements {
		if len(cells) == 1 {
			r.Ranges = append(r.Ranges, api.Range{Low: cells[0], High: cells[0]})
			continue
		}
		r.Texts = append(r.Texts, cells)
	}
}

// addBetween lays all from one element to another one behind all others, at a place where a sign asks for that.
func (r *reader) addBetween(first, last []api.Cell, at int) {
	if r.isByNumber(first, last) {
		if last[0] < first[0] {
			panic(fault{api.ErrRange, at})
		}
		r.Ranges = append(r.Ranges, api.Range{Low: first[0], High: last[0]})
		return
	}
	elements, err := r.table.Between(first, last)
	if err != api.OK {
		panic(fault{err, at})
	}
	r.add(elements...)
}

// isByNumber says whether what is between two cells is told by their numbers: the order does not have both.
func (r *reader) isByNumber(first, last []api.Cell) bool {
	if len(first) != 1 || len(last) != 1 {
		return false
	}
	return r.table.Rank(first) < 0 || r.table.Rank(last) < 0
}
