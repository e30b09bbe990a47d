package bre

import (
	"slices"

	"redactor/api"
	"redactor/bracket"
	"redactor/collate"
	"redactor/tree"
)

// What stands for more than itself.
const (
	escape  api.Cell = '\\'
	begins  api.Cell = '^'
	ends    api.Cell = '$'
	anyOne  api.Cell = '.'
	setOpen api.Cell = '['
	manyOf  api.Cell = '*'
)

// What does so behind an escape.
const (
	groupOpen api.Cell = '('
	groupShut api.Cell = ')'
	timesOpen api.Cell = '{'
	timesShut api.Cell = '}'
	lineEnd   api.Cell = 'n'
)

const (
	upTo       api.Cell = ',' // between the numbers of a repeat
	mostDigits          = 3   // of such a number
	noMost              = -1
)

// fault is an error that was found at a place.
type fault struct {
	err api.Errno
	at  int
}

// whatIs is what was panicked with: an error at a place, or one of the whole, which is told at the beginning.
func whatIs(wrong any) (api.Errno, int) {
	switch w := wrong.(type) {
	case fault:
		return w.err, w.at
	case api.Errno:
		return w, 0
	}
	// A fault of the program's own may not pass for a tree.
	return api.ErrForm, 0
}

// cursor goes through cells; it is never beyond their end.
type cursor struct {
	cells []api.Cell
	at    int
}

func (c *cursor) rest() []api.Cell { return c.cells[c.at:] }

// isAt says whether these signs stand next.
func (c *cursor) isAt(signs ...api.Cell) bool {
	rest := c.rest()
	return len(rest) >= len(signs) && slices.Equal(rest[:len(signs)], signs)
}

// takes goes on behind these signs, if they stand next.
func (c *cursor) takes(signs ...api.Cell) bool {
	is := c.isAt(signs...)
	if is {
		c.at += len(signs)
	}
	return is
}

// take goes on behind the next cell; at the end it tells one that is no sign.
func (c *cursor) take() api.Cell {
	rest := c.rest()
	if len(rest) == 0 {
		return 0
	}
	c.at++
	return rest[0]
}

// rowEnds says whether a row has no more pieces.
func (c *cursor) rowEnds() bool { return len(c.rest()) == 0 || c.isAt(escape, groupShut) }

// reader lays the nodes of what it reads, each as it ends; its methods tell the place of what they laid, and panic at what is wrong.
type reader struct {
	cursor
	*tree.Builder
	table *collate.Table
	begun int                     // groups
	ended [api.MaxGroups + 1]bool // by the number of a group, of which none is 0
}

// whole is the tree of all cells.
func (r *reader) whole() api.Tree {
	r.row()
	if r.isAt(escape, groupShut) {
		panic(fault{api.ErrParen, r.at})
	}
	t := r.Tree()
	if !tree.Right(t) {
		panic(api.ErrLong)
	}
	return t
}

func (r *reader) row() int {
	var pieces []int
	// No repeat follows what begins a row: an atom stands behind it, as at the beginning.
	if r.takes(begins) {
		pieces = append(pieces, r.Leaf(api.Node{Kind: api.Begin}))
	}
	for !r.rowEnds() {
		pieces = append(pieces, r.piece())
	}
	return r.Row(pieces...)
}

// piece is an atom, and all repeats behind it.
func (r *reader) piece() int {
	kid := r.atom()
	for {
		at := r.at
		switch {
		case r.takes(manyOf):
			kid = r.Times(kid, 0, noMost)
		case r.takes(escape, timesOpen):
			least, most := r.times(at)
			kid = r.Times(kid, least, most)
		default:
			return kid
		}
	}
}

// times are the numbers of a repeat that begins at a place.
func (r *reader) times(begin int) (least, most int) {
	least = r.number(begin)
	most = least
	if r.takes(upTo) {
		if r.takes(escape, timesShut) {
			return least, noMost
		}
		most = r.number(begin)
	}
	if !r.takes(escape, timesShut) || most < least {
		panic(fault{api.ErrTimes, begin})
	}
	return least, most
}

// number is one of a repeat that begins at a place.
func (r *reader) number(begin int) int {
	n, digits := 0, 0
	for _, c := range r.rest() {
		if c < '0' || c > '9' || digits == mostDigits {
			break
		}
		n = n*10 + int(c-'0')
		digits++
	}
	if digits == 0 || n > api.MaxTimes {
		panic(fault{api.ErrTimes, begin})
	}
	r.at += digits
	return n
}

// atom is what stands where no repeat may stand: the sign of one is a cell there.
func (r *reader) atom() int {
	begin := r.at
	switch c := r.take(); {
	case c == escape:
		return r.escaped(begin)
	case c == anyOne:
		return r.Leaf(api.Node{Kind: api.Any})
	case c == setOpen:
		return r.set()
	case c == ends && r.rowEnds():
		return r.Leaf(api.Node{Kind: api.End})
	default:
		return r.one(c)
	}
}

func (r *reader) one(c api.Cell) int { return r.Leaf(api.Node{Kind: api.One, Cell: c}) }

func (r *reader) set() int {
	s, behind, err, at := bracket.Parse(r.cells, r.at, r.table)
	if err != api.OK {
		panic(fault{err, at})
	}
	r.at = behind
	return r.Leaf(api.Node{Kind: api.Set, Set: s})
}

// escaped is the atom of what stands behind an escape, which stands at a place.
func (r *reader) escaped(begin int) int {
	switch c := r.take(); c {
	case groupOpen:
		return r.group(begin)
	case timesOpen, timesShut:
		panic(fault{api.ErrTimes, begin})
	case lineEnd:
		return r.one('\n')
	case '1', '2', '3', '4', '5', '6', '7', '8', '9':
		return r.back(begin, int(c-'0'))
	case anyOne, setOpen, ']', manyOf, begins, ends, '/', escape:
		return r.one(c)
	}
	panic(fault{api.ErrForm, begin})
}

// back is what a group had, which must have ended.
func (r *reader) back(begin, number int) int {
	if !r.ended[number] {
		panic(fault{api.ErrRef, begin})
	}
	return r.Leaf(api.Node{Kind: api.Back, N: number})
}

// group is one that begins at a place; one that were too deep within others would be beyond the last number, too.
func (r *reader) group(begin int) int {
	if r.begun == api.MaxGroups {
		panic(fault{api.ErrLong, begin})
	}
	r.begun++
	number := r.begun
	kid := r.row()
	if !r.takes(escape, groupShut) {
		panic(fault{api.ErrParen, begin})
	}
	r.ended[number] = true
	return r.Group(number, kid)
}
