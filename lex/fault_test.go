package lex

import (
	"errors"
	"testing"

	"redactor/api"
)

// T5: whatever a reader panics with is told as one error; a fault of its own at the place where it is.
func TestWhatIs(t *testing.T) {
	r := reader{text: "abc", at: 2}
	for _, c := range []struct {
		wrong any
		err   api.Errno
		at    int
	}{
		{tooLong{}, api.ErrLong, 0},
		{noToken(1), api.ErrToken, 1},
		{noToken(0), api.ErrToken, 0},
		{errors.New("a fault"), api.ErrToken, 2},
		{"a fault", api.ErrToken, 2},
		{1, api.ErrToken, 2},
	} {
		if err, at := r.whatIs(c.wrong); err != c.err || at != c.at {
			t.Errorf("of %v: %d, %d, want %d, %d", c.wrong, err, at, c.err, c.at)
		}
	}
}
