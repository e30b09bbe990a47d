// Package cell is layer 1: see shared/doc/01-cell.md.
package cell

import (
	"slices"
	"strconv"
	"strings"
	"unicode/utf8"

	"redactor/api"
)

const (
	firstSurrogate api.Cell = 0xd800
	lastSurrogate  api.Cell = 0xdfff
	leastEscape    api.Cell = -256
	hexDigits               = "0123456789abcdef"
)

// Right says whether a number is a cell: a scalar, or the escape of a byte.
func Right(c api.Cell) bool {
	if c < leastEscape || c > api.MaxScalar {
		return false
	}
	return c < firstSurrogate || c > lastSurrogate
}

// Escape is a byte that is of no scalar, as a cell.
func Escape(b byte) api.Cell { return -1 - api.Cell(b) }

// Byte is the way back from Escape; false: the cell is no escape.
func Byte(c api.Cell) (byte, bool) {
	if c < leastEscape || c >= 0 {
		return 0, false
	}
	return byte(-1 - c), true
}

// Of are a text's scalars as cells; a byte that is of none is its escape.
func Of(s string) []api.Cell {
	cells := make([]api.Cell, 0, utf8.RuneCountInString(s))
	for at, r := range s {
		// A range answers fffd both for a byte that is of no scalar and for fffd itself: only the bytes tell which.
		if r == utf8.RuneError && !strings.HasPrefix(s[at:], "\ufffd") {
			cells = append(cells, Escape(s[at]))
			continue
		}
		cells = append(cells, api.Cell(r))
	}
	return cells
}

// Text is cells as a text to be looked at, of signs from 20 to 7e alone.
func Text(l []api.Cell) string {
	var text []byte
	for _, c := range l {
		text = appendShown(text, c)
	}
	return string(text)
}

func appendShown(text []byte, c api.Cell) []byte {
	b, escape := Byte(c)
	switch {
	case escape:
		return append(text, '\\', 'x', hexDigits[b>>4], hexDigits[b&15])
	case !Right(c):
		return append(text, `\?`...)
	case c == '\\':
		return append(text, `\\`...)
	case c == '\n':
		return append(text, `\n`...)
	case c >= ' ' && c <= '~':
		return append(text, byte(c))
	}
	text = append(text, `\u{`...)
	text = strconv.AppendInt(text, int64(c), 16)
	return append(text, '}')
}

// Compare is -1, 0 or 1: by the first cells that are not alike, else by how many there are.
func Compare(a, b []api.Cell) int { return slices.Compare(a, b) }

// Find is the first place, from one on, at which others stand; -1: there is none.
func Find(l, sub []api.Cell, from int) int {
	// The last place is worked out from the lengths, so that no sum with from can run over.
	last := len(l) - len(sub)
search:
	for at := max(from, 0); at <= last; at++ {
		for i, c := range sub {
			if l[at+i] != c {
				continue search
			}
		}
		return at
	}
	return -1
}

// Cut are the cells from a place to another one, in memory of their own.
func Cut(l []api.Cell, from, to int) ([]api.Cell, api.Errno) {
	// A slice may be cut up to its capacity: what lies behind its length must be refused here.
	if from < 0 || from > to || to > len(l) {
		return nil, api.ErrArg
	}
	cells := make([]api.Cell, to-from)
	copy(cells, l[from:to])
	return cells, api.OK
}
