package bre

import (
	"errors"
	"testing"

	"redactor/api"
	"redactor/cell"
)

// T5: whatever a reader panics with is told as one error; a fault of its own, too.
func TestWhatIs(t *testing.T) {
	for _, c := range []struct {
		wrong any
		err   api.Errno
		at    int
	}{
		{fault{api.ErrParen, 3}, api.ErrParen, 3},
		{fault{api.ErrTimes, 0}, api.ErrTimes, 0},
		{api.ErrLong, api.ErrLong, 0},
		{errors.New("a fault"), api.ErrForm, 0},
		{"a fault", api.ErrForm, 0},
		{3, api.ErrForm, 0},
	} {
		if err, at := whatIs(c.wrong); err != c.err || at != c.at {
			t.Errorf("of %v: %d, %d, want %d, %d", c.wrong, err, at, c.err, c.at)
		}
	}
}

// T5: even what must not be asked for, a set of a locale without a table, ends without a panic, and tells no part of a tree.
func TestNoTable(t *testing.T) {
	for text, want := range map[string]api.Errno{"a[b]*": api.OK, "a[[:digit:]]": api.ErrForm, `\([[.a.]]\)`: api.ErrForm, "[[=a=]]": api.ErrForm, "x[a-c]": api.ErrForm} {
		x, err, _ := Parse(cell.Of(text), nil)
		if err != want {
			t.Errorf("Parse(%s) = %d", text, err)
		}
		if err != api.OK && (x.Nodes != nil || x.Groups != 0) {
			t.Errorf("Parse(%s) = %v", text, x)
		}
	}
}

// A cursor is never beyond the end.
func TestTakeAtTheEnd(t *testing.T) {
	c := cursor{cells: cell.Of("ab")[:1]}
	for _, want := range []api.Cell{'a', 0, 0} {
		if got := c.take(); got != want || c.at != 1 {
			t.Errorf("take = %d at %d, want %d", got, c.at, want)
		}
	}
	if c.isAt('b') || c.takes('b') || !c.isAt() || !c.rowEnds() || len(c.rest()) != 0 {
		t.Error("it is beyond the end")
	}
}
