package locale

import (
	"errors"
	"testing"

	"redactor/api"
)

// T5: whatever is panicked with is told as one error; a fault of the program's own, too.
func TestFaultOf(t *testing.T) {
	for _, c := range []struct {
		wrong any
		want  fault
	}{
		{fault{api.ErrName, 7}, fault{api.ErrName, 7}},
		{fault{api.ErrTwice, 0}, fault{api.ErrTwice, 0}},
		{api.ErrLong, fault{api.ErrLong, 0}},
		{errors.New("a fault"), fault{api.ErrForm, 0}},
		{"a fault", fault{api.ErrForm, 0}},
		{7, fault{api.ErrForm, 0}},
	} {
		if got := faultOf(c.wrong); got != c.want {
			t.Errorf("of %v: %v, want %v", c.wrong, got, c.want)
		}
	}
}

// putError is what a printer panics with as so many tokens are put behind others.
func putError(ahead, more int) (wrong any) {
	defer func() { wrong = recover() }()
	p := printer{tokens: ahead}
	p.put(make([]api.Token, more)...)
	return nil
}

// More than 1000 tokens are refused by themselves, though each locale that has so many has more than 4000 bytes, too.
func TestTooManyTokensPrinted(t *testing.T) {
	for _, c := range []struct {
		ahead, more int
		want        any
	}{
		{0, 0, nil}, {0, 1, nil}, {0, 1000, nil}, {999, 1, nil}, {1000, 0, nil},
		{0, 1001, api.ErrLong}, {1000, 1, api.ErrLong}, {999, 2, api.ErrLong}, {0, 4000, api.ErrLong},
	} {
		if got := putError(c.ahead, c.more); got != c.want {
			t.Errorf("%d tokens behind %d: %v, want %v", c.more, c.ahead, got, c.want)
		}
	}
}
