package utf8_test

import (
	"bytes"
	"math"
	"slices"
	"testing"

	"redactor/api"
	"redactor/utf8"
)

func isScalar(c api.Cell) bool {
	return c >= 0 && c <= 0x10ffff && (c < 0xd800 || c > 0xdfff)
}

func isEscape(c api.Cell) bool { return c >= -256 && c <= -1 }

// sequence is a scalar's, worked out as the chapter says, without a library's help.
func sequence(c api.Cell) []byte {
	low := func(n api.Cell) byte { return 0x80 + byte(n%64) }
	switch {
	case c < 0x80:
		return []byte{byte(c)}
	case c < 0x800:
		return []byte{0xc0 + byte(c/64), low(c)}
	case c < 0x10000:
		return []byte{0xe0 + byte(c/4096), low(c / 64), low(c)}
	}
	return []byte{0xf0 + byte(c/262144), low(c / 4096), low(c / 64), low(c)}
}

// scalarAt is the scalar whose sequence stands at the beginning, and how many bytes that has; 0: there is none.
func scalarAt(b []byte) (api.Cell, int) {
	least := [5]api.Cell{0, 0, 0x80, 0x800, 0x10000}
	n, c := 0, api.Cell(0)
	switch {
	case b[0] < 0x80:
		n, c = 1, api.Cell(b[0])
	case b[0]&0xe0 == 0xc0:
		n, c = 2, api.Cell(b[0]&0x1f)
	case b[0]&0xf0 == 0xe0:
		n, c = 3, api.Cell(b[0]&0x0f)
	case b[0]&0xf8 == 0xf0:
		n, c = 4, api.Cell(b[0]&0x07)
	}
	if n == 0 || n > len(b) {
		return 0, 0
	}
	for _, next := range b[1:n] {
		if next&0xc0 != 0x80 {
			return 0, 0
		}
		c = c*64 + api.Cell(next&0x3f)
	}
	if c < least[n] || !isScalar(c) {
		return 0, 0
	}
	return c, n
}

// decoded is what Decode must answer, told without it.
func decoded(b []byte) []api.Cell {
	var l []api.Cell
	for len(b) > 0 {
		c, n := scalarAt(b)
		if n == 0 {
			c, n = -1-api.Cell(b[0]), 1
		}
		l, b = append(l, c), b[n:]
	}
	return l
}

// encoded is what Encode must answer, told without it.
func encoded(l []api.Cell) ([]byte, api.Errno) {
	var b []byte
	for _, c := range l {
		switch {
		case isEscape(c):
			b = append(b, byte(-1-c))
		case isScalar(c):
			b = append(b, sequence(c)...)
		default:
			return nil, api.ErrCell
		}
	}
	return b, api.OK
}

func escapes(s string) []api.Cell {
	var l []api.Cell
	for i := range len(s) {
		l = append(l, -1-api.Cell(s[i]))
	}
	return l
}

// edges are the last scalar of each length and the first of the next one, those beside the surrogates, and fffd.
var edges = []struct {
	c api.Cell
	s string
}{
	{0, "\x00"},
	{'a', "a"},
	{0x7f, "\x7f"},
	{0x80, "\xc2\x80"},
	{0xe9, "\xc3\xa9"},
	{0x7ff, "\xdf\xbf"},
	{0x800, "\xe0\xa0\x80"},
	{0xfff, "\xe0\xbf\xbf"},
	{0x1000, "\xe1\x80\x80"},
	{0x20ac, "\xe2\x82\xac"},
	{0xd7ff, "\xed\x9f\xbf"},
	{0xe000, "\xee\x80\x80"},
	{0xfeff, "\xef\xbb\xbf"},
	{0xfffc, "\xef\xbf\xbc"},
	{0xfffd, "\xef\xbf\xbd"},
	{0xfffe, "\xef\xbf\xbe"},
	{0xffff, "\xef\xbf\xbf"},
	{0x10000, "\xf0\x90\x80\x80"},
	{0x1f600, "\xf0\x9f\x98\x80"},
	{0x3ffff, "\xf0\xbf\xbf\xbf"},
	{0x40000, "\xf1\x80\x80\x80"},
	{0xfffff, "\xf3\xbf\xbf\xbf"},
	{0x100000, "\xf4\x80\x80\x80"},
	{0x10ffff, "\xf4\x8f\xbf\xbf"},
}

// none are texts of which no byte is of a sequence.
var none = []string{
	"\x80", "\xbf", "\x80\xbf\x80\xbf", // what goes on, with nothing ahead of it
	"\xc0\x80", "\xc0\xaf", "\xc1\xbf", // too long: 0, 2f, 7f
	"\xe0\x80\x80", "\xe0\x82\x80", "\xe0\x9f\xbf", // too long: 0, 80, 7ff
	"\xf0\x80\x80\x80", "\xf0\x80\xa0\x80", "\xf0\x8f\xbf\xbf", // too long: 0, 800, ffff
	"\xed\xa0\x80", "\xed\xaf\xbf", "\xed\xb0\x80", "\xed\xbf\xbf", // surrogates: d800, dbff, dc00, dfff
	"\xed\xa0\xbd\xed\xb8\x80",             // two halves that were a pair
	"\xf4\x90\x80\x80", "\xf4\xbf\xbf\xbf", // too great: 110000, 13ffff
	"\xf5\x80\x80\x80", "\xf7\xbf\xbf\xbf", // too great: 140000, 1fffff
	"\xf8\x88\x80\x80\x80", "\xfc\x84\x80\x80\x80\x80", // of five bytes and of six
	"\xfe", "\xff", "\xfe\xff", "\xff\xfe",
}

func TestDecode(t *testing.T) {
	for _, c := range []struct {
		text string
		want []api.Cell
	}{
		{"\xc3\xa9\xc3", []api.Cell{0xe9, -0xc4}},
		{"abc", []api.Cell{'a', 'b', 'c'}},
		{"a\r\nb\n", []api.Cell{'a', 0x0d, 0x0a, 'b', 0x0a}},
		{"x\xc3\xa9y\xe2\x82\xacz\xf0\x9f\x98\x80", []api.Cell{'x', 0xe9, 'y', 0x20ac, 'z', 0x1f600}},
		{"\xef\xbb\xbfa", []api.Cell{0xfeff, 'a'}},
		{"a\xffb", []api.Cell{'a', -256, 'b'}},
		{"\xc3\xc3\xa9", []api.Cell{-0xc4, 0xe9}},
		{"\xa9\xc3\xa9", []api.Cell{-0xaa, 0xe9}},
		{"\xc3\xa9\xa9", []api.Cell{0xe9, -0xaa}},
		{"\xe2\x82\xc3\xa9", []api.Cell{-0xe3, -0x83, 0xe9}},
		{"\xf0\x9f\x98a", []api.Cell{-0xf1, -0xa0, -0x99, 'a'}},
		{"\xef\xbf\xbd\xef\xbf", []api.Cell{0xfffd, -0xf0, -0xc0}},
		{"\xef\xbf\xef\xbf\xbd", []api.Cell{-0xf0, -0xc0, 0xfffd}},
		{"\xff\xef\xbf\xbd\xff", []api.Cell{-256, 0xfffd, -256}},
		{"\xed\xa0\x80\xed\x9f\xbf", []api.Cell{-0xee, -0xa1, -0x81, 0xd7ff}},
		{"\xc0\x80\x00", []api.Cell{-0xc1, -0x81, 0}},
	} {
		if got := utf8.Decode([]byte(c.text)); !slices.Equal(got, c.want) {
			t.Errorf("Decode(%x) = %d, want %d", c.text, got, c.want)
		}
	}
}

func TestEdges(t *testing.T) {
	for _, edge := range edges {
		if got := utf8.Decode([]byte(edge.s)); !slices.Equal(got, []api.Cell{edge.c}) {
			t.Errorf("Decode(%x) = %d, want %d", edge.s, got, edge.c)
		}
		if got, e := utf8.Encode([]api.Cell{edge.c}); string(got) != edge.s || e != api.OK {
			t.Errorf("Encode(%x) = %x, %d, want %x", edge.c, got, e, edge.s)
		}
		if !utf8.Canonical([]api.Cell{edge.c}) {
			t.Errorf("Canonical(%x) is false", edge.c)
		}
	}
}

func TestEdgesOneBehindTheOther(t *testing.T) {
	for _, a := range edges {
		for _, b := range edges {
			l := []api.Cell{a.c, b.c}
			if got := utf8.Decode([]byte(a.s + b.s)); !slices.Equal(got, l) {
				t.Errorf("Decode(%x %x) = %d", a.s, b.s, got)
			}
			if got, e := utf8.Encode(l); string(got) != a.s+b.s || e != api.OK || !utf8.Canonical(l) {
				t.Errorf("Encode(%x) = %x, %d", l, got, e)
			}
		}
	}
}

// Nothing of a sequence that is cut off is of a scalar: not at the end, and not ahead of another one.
func TestCutOff(t *testing.T) {
	for _, edge := range edges {
		for n := 1; n < len(edge.s); n++ {
			head, tail := edge.s[:n], edge.s[n:]
			if got := utf8.Decode([]byte(head)); !slices.Equal(got, escapes(head)) {
				t.Errorf("Decode(%x) = %d", head, got)
			}
			if got := utf8.Decode([]byte(tail)); !slices.Equal(got, escapes(tail)) {
				t.Errorf("Decode(%x) = %d", tail, got)
			}
			for _, next := range edges {
				if got := utf8.Decode([]byte(head + next.s)); !slices.Equal(got, append(escapes(head), next.c)) {
					t.Errorf("Decode(%x %x) = %d", head, next.s, got)
				}
			}
		}
	}
}

func TestNoSequence(t *testing.T) {
	for _, s := range none {
		if got := utf8.Decode([]byte(s)); !slices.Equal(got, escapes(s)) {
			t.Errorf("Decode(%x) = %d", s, got)
		}
		want := append(append([]api.Cell{'a'}, escapes(s)...), 0xe9)
		if got := utf8.Decode([]byte("a" + s + "\xc3\xa9")); !slices.Equal(got, want) {
			t.Errorf("Decode(a %x c3a9) = %d", s, got)
		}
		if got, e := utf8.Encode(escapes(s)); string(got) != s || e != api.OK {
			t.Errorf("Encode of the escapes of %x = %x, %d", s, got, e)
		}
		if !utf8.Canonical(escapes(s)) {
			t.Errorf("Canonical of the escapes of %x is false", s)
		}
	}
}

func TestNothing(t *testing.T) {
	for _, b := range [][]byte{nil, {}} {
		if got := utf8.Decode(b); len(got) != 0 {
			t.Errorf("Decode(%#v) = %d", b, got)
		}
	}
	for _, l := range [][]api.Cell{nil, {}} {
		if got, e := utf8.Encode(l); len(got) != 0 || e != api.OK || !utf8.Canonical(l) {
			t.Errorf("Encode(%#v) = %x, %d", l, got, e)
		}
	}
}

func TestEveryScalar(t *testing.T) {
	for c := api.Cell(0); c <= 0x10ffff; c++ {
		if !isScalar(c) {
			continue
		}
		l := []api.Cell{c}
		b, e := utf8.Encode(l)
		if !bytes.Equal(b, sequence(c)) || e != api.OK || !slices.Equal(utf8.Decode(b), l) || !utf8.Canonical(l) {
			t.Fatalf("Encode(%x) = %x, %d", c, b, e)
		}
	}
}

func TestEveryByte(t *testing.T) {
	for n := 0; n <= 255; n++ {
		b, escape := []byte{byte(n)}, api.Cell(-1-n)
		want := escape
		if n < 0x80 {
			want = api.Cell(n)
		}
		if got := utf8.Decode(b); !slices.Equal(got, []api.Cell{want}) {
			t.Errorf("Decode(%x) = %d", b, got)
		}
		if got, e := utf8.Encode([]api.Cell{escape}); !bytes.Equal(got, b) || e != api.OK {
			t.Errorf("Encode(%d) = %x, %d", escape, got, e)
		}
		// The byte below 80 is a sequence by itself: decoded it is a scalar, and its escape is not reached.
		if got := utf8.Canonical([]api.Cell{escape}); got != (n >= 0x80) {
			t.Errorf("Canonical(%d) = %v", escape, got)
		}
	}
}

func TestEncode(t *testing.T) {
	for _, c := range []struct {
		cells []api.Cell
		want  string
	}{
		{[]api.Cell{0xe9, -0xc4}, "\xc3\xa9\xc3"},
		{[]api.Cell{'a', -256, 0x10ffff, -1}, "a\xff\xf4\x8f\xbf\xbf\x00"},
		{[]api.Cell{-1 - 'a', 'a'}, "aa"},
		{[]api.Cell{-0xc4, -0xaa}, "\xc3\xa9"},
		{[]api.Cell{-0xf0, -0xc0, -0xbe, 0xfffd}, "\xef\xbf\xbd\xef\xbf\xbd"},
		{[]api.Cell{0xff, -256}, "\xc3\xbf\xff"},
	} {
		if got, e := utf8.Encode(c.cells); string(got) != c.want || e != api.OK {
			t.Errorf("Encode(%d) = %x, %d, want %x", c.cells, got, e, c.want)
		}
	}
}

// wrong are numbers that are no cells.
var wrong = []api.Cell{
	math.MinInt32, math.MinInt32 + 1, -0x10ffff, -512, -258, -257,
	0xd800, 0xd801, 0xdbff, 0xdc00, 0xdffe, 0xdfff, 0x110000, 0x110001, 0x1fffff, 0x7fffffff,
}

func TestNoCell(t *testing.T) {
	right := []api.Cell{'a', 0xe9, -256, 0xfffd, 0x10ffff}
	for _, c := range wrong {
		for at := 0; at <= len(right); at++ {
			l := slices.Insert(slices.Clone(right), at, c)
			if got, e := utf8.Encode(l); len(got) != 0 || e != api.ErrCell {
				t.Errorf("Encode(%d) = %x, %d", l, got, e)
			}
			if utf8.Canonical(l) {
				t.Errorf("Canonical(%d) is true", l)
			}
		}
		for _, l := range [][]api.Cell{{c}, {c, c}} {
			if got, e := utf8.Encode(l); len(got) != 0 || e != api.ErrCell || utf8.Canonical(l) {
				t.Errorf("Encode(%d) = %x, %d", l, got, e)
			}
		}
	}
}

// All cells are encoded, and no number beside them is.
func TestEveryNumberAround(t *testing.T) {
	for c := api.Cell(-600); c <= 0x110200; c++ {
		want, wantE := encoded([]api.Cell{c})
		got, e := utf8.Encode([]api.Cell{c})
		if !bytes.Equal(got, want) || e != wantE {
			t.Fatalf("Encode(%d) = %x, %d", c, got, e)
		}
		if is := utf8.Canonical([]api.Cell{c}); is != (isScalar(c) || c >= -256 && c <= -0x81) {
			t.Fatalf("Canonical(%d) = %v", c, is)
		}
	}
}

func TestCanonical(t *testing.T) {
	for _, c := range []struct {
		cells []api.Cell
		want  bool
	}{
		{[]api.Cell{0xe9}, true},
		{[]api.Cell{0xe9, -0xc4}, true},
		{[]api.Cell{-0xc4, -0xaa}, false},
		{[]api.Cell{-0xc4, 'x', -0xaa}, true},
		{[]api.Cell{-0xaa, -0xc4}, true},
		{[]api.Cell{-0xc4, -0xc4, -0xaa}, false},
		{[]api.Cell{-0xc4, 0xe9}, true},
		{[]api.Cell{-0xc4, 'a', 0xe9, -0xaa}, true},
		{[]api.Cell{-1}, false},
		{[]api.Cell{'a', -1 - 'a'}, false},
		{[]api.Cell{-1 - 'a', 'a'}, false},
		{[]api.Cell{-0x80}, false},
		{[]api.Cell{-0x81}, true},
		{escapes("\xef\xbf\xbd"), false},
		{escapes("\xef\xbf"), true},
		{escapes("\xed\xa0\x80"), true},
		{escapes("\xed\x9f\xbf"), false},
		{escapes("\xf4\x8f\xbf\xbf"), false},
		{escapes("\xf4\x90\x80\x80"), true},
		{escapes("\xe0\x9f\xbf"), true},
		{escapes("\xe0\xa0\x80"), false},
	} {
		if got := utf8.Canonical(c.cells); got != c.want {
			t.Errorf("Canonical(%d) = %v", c.cells, got)
		}
	}
}

// The escapes of all bytes of a sequence are not what it is decoded to; those of all but one of its ends are.
func TestCanonicalOfEscapedSequences(t *testing.T) {
	for _, edge := range edges {
		l := escapes(edge.s)
		for _, around := range [][]api.Cell{l, append([]api.Cell{'a'}, l...), append(slices.Clone(l), 0xe9)} {
			if utf8.Canonical(around) {
				t.Errorf("Canonical(%d) is true", around)
			}
		}
		if len(l) > 1 && !(utf8.Canonical(l[1:]) && utf8.Canonical(l[:len(l)-1])) {
			t.Errorf("Canonical of a part of %d is false", l)
		}
	}
}

// edgeTexts are all texts of up to 4 bytes that stand at the edges of what begins, goes on, or ends a sequence.
func edgeTexts(visit func(b []byte)) {
	const some = "\x00a\x7f\x80\x8f\x90\x9f\xa0\xbd\xbf\xc0\xc1\xc2\xdf\xe0\xe1\xec\xed\xee\xef\xf0\xf1\xf3\xf4\xf5\xf8\xff"
	var grow func(s string)
	grow = func(s string) {
		visit([]byte(s))
		for i := 0; i < len(some) && len(s) < 4; i++ {
			grow(s + some[i:i+1])
		}
	}
	grow("")
}

// checkBytes holds the promises about bytes against a decoder of the test's own.
func checkBytes(t *testing.T, b []byte) {
	l := utf8.Decode(b)
	if !slices.Equal(l, decoded(b)) {
		t.Fatalf("Decode(%x) = %d", b, l)
	}
	if back, e := utf8.Encode(l); !bytes.Equal(back, b) || e != api.OK {
		t.Fatalf("Encode(Decode(%x)) = %x, %d", b, back, e)
	}
	if !utf8.Canonical(l) {
		t.Fatalf("Canonical(Decode(%x)) is false", b)
	}
}

func TestThereAndBack(t *testing.T) {
	edgeTexts(func(b []byte) { checkBytes(t, b) })
}

func TestEveryTwoBytes(t *testing.T) {
	for n := 0; n <= 0xffff; n++ {
		checkBytes(t, []byte{byte(n >> 8), byte(n)})
	}
}

// rows are all rows of up to most of some cells.
func rows(some []api.Cell, most int, visit func(l []api.Cell)) {
	var grow func(l []api.Cell)
	grow = func(l []api.Cell) {
		visit(l)
		for i := 0; i < len(some) && len(l) < most; i++ {
			grow(append(slices.Clone(l), some[i]))
		}
	}
	grow(nil)
}

// checkCells holds the promises about cells against a decoder and an encoder of the test's own.
func checkCells(t *testing.T, l []api.Cell) {
	want, wantE := encoded(l)
	got, e := utf8.Encode(l)
	if !bytes.Equal(got, want) || e != wantE {
		t.Fatalf("Encode(%d) = %x, %d", l, got, e)
	}
	if is := utf8.Canonical(l); is != (wantE == api.OK && slices.Equal(decoded(want), l)) {
		t.Fatalf("Canonical(%d) = %v", l, is)
	}
}

func TestRowsOfCells(t *testing.T) {
	some := append(escapes("\x00a\x80\x90\xa0\xbd\xbf\xc2\xc3\xe0\xed\xef\xf0\xf4\xff"), 'a', 0x80, 0xfffd, 0x10ffff, 0xdfff)
	rows(some, 4, func(l []api.Cell) { checkCells(t, l) })
}
