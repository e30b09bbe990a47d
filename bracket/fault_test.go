package bracket

import (
	"errors"
	"testing"

	"redactor/api"
	"redactor/cell"
)

// T5: whatever a reader panics with is told as one error; a fault of its own, too.
func TestWhatIs(t *testing.T) {
	r := reader{cursor: cursor{cells: cell.Of("abcdef"), at: 2}}
	for _, c := range []struct {
		wrong any
		err   api.Errno
		at    int
	}{
		{fault{api.ErrName, 3}, api.ErrName, 3},
		{fault{api.ErrRange, 0}, api.ErrRange, 0},
		{api.ErrForm, api.ErrForm, 6},
		{errors.New("a fault"), api.ErrForm, 6},
		{"a fault", api.ErrForm, 6},
		{3, api.ErrForm, 6},
	} {
		if err, at := r.whatIs(c.wrong); err != c.err || at != c.at {
			t.Errorf("of %v: %d, %d, want %d, %d", c.wrong, err, at, c.err, c.at)
		}
	}
}

// T5: even what must not be asked for, a bracket without a table, ends without a panic, and tells no part of a set.
func TestNoTable(t *testing.T) {
	for text, want := range map[string]api.Errno{"a]": api.OK, "^]x]": api.OK, "a[:digit:]]": api.ErrForm, "[.a.]]": api.ErrForm, "a[=a=]]": api.ErrForm, "^a-c]": api.ErrForm, "a": api.ErrForm} {
		s, behind, err, at := Parse(cell.Of(text), 0, nil)
		if err != want {
			t.Errorf("Parse(%s) = %d", text, err)
		}
		if err != api.OK && (s.Not || len(s.Ranges)+len(s.Texts) != 0 || behind != 0 || at != len(text)) {
			t.Errorf("Parse(%s) = %v, %d, %d", text, s, behind, at)
		}
	}
}
