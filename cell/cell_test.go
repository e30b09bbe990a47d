package cell_test

import (
	"fmt"
	"math"
	"slices"
	"strconv"
	"strings"
	"testing"
	"unicode/utf8"

	"redactor/api"
	"redactor/cell"
)

func isScalar(c api.Cell) bool {
	return c >= 0 && c <= 0x10ffff && (c < 0xd800 || c > 0xdfff)
}

func isEscape(c api.Cell) bool { return c >= -256 && c <= -1 }

// around are all cells, and numbers on both sides that are none.
func around(t *testing.T, check func(c api.Cell) bool) {
	t.Helper()
	for c := api.Cell(-600); c <= 0x110200; c++ {
		if !check(c) {
			t.Fatalf("wrong for %d (%x)", c, c)
		}
	}
}

func TestRight(t *testing.T) {
	for c, want := range map[api.Cell]bool{
		math.MinInt32: false, -257: false, -256: true, -255: true, -1: true,
		0: true, 'a': true, 0xd7ff: true, 0xd800: false, 0xdbff: false, 0xdc00: false, 0xdfff: false, 0xe000: true,
		0xfffd: true, 0xffff: true, 0x10000: true, 0x10ffff: true, 0x110000: false, math.MaxInt32: false,
	} {
		if got := cell.Right(c); got != want {
			t.Errorf("Right(%d) = %v, want %v", c, got, want)
		}
	}
	around(t, func(c api.Cell) bool { return cell.Right(c) == (isScalar(c) || isEscape(c)) })
}

func TestEscapeAndByte(t *testing.T) {
	for b := 0; b <= 255; b++ {
		c := cell.Escape(byte(b))
		if c != api.Cell(-1-b) || !cell.Right(c) {
			t.Errorf("Escape(%02x) = %d", b, c)
		}
		if back, is := cell.Byte(c); back != byte(b) || !is {
			t.Errorf("Byte(%d) = %02x, %v", c, back, is)
		}
	}
	if cell.Escape(0) != -1 || cell.Escape(0xff) != -256 {
		t.Error("the first or the last escape is wrong")
	}
}

func TestByteOfNoEscape(t *testing.T) {
	for _, c := range []api.Cell{math.MinInt32, -512, -257, 0, 1, 'a', 255, 256, 0xd800, 0x10ffff, 0x110000, math.MaxInt32} {
		if b, is := cell.Byte(c); b != 0 || is {
			t.Errorf("Byte(%d) = %02x, %v", c, b, is)
		}
	}
	around(t, func(c api.Cell) bool {
		b, is := cell.Byte(c)
		return is == isEscape(c) && (is || b == 0)
	})
}

func escapes(s string) []api.Cell {
	var l []api.Cell
	for i := range len(s) {
		l = append(l, api.Cell(-1-int(s[i])))
	}
	return l
}

func TestOf(t *testing.T) {
	for _, c := range []struct {
		text string
		want []api.Cell
	}{
		{"", nil},
		{"a\xff\xc3\xa9", []api.Cell{0x61, -256, 0xe9}},
		{"\x00\x7f", []api.Cell{0, 0x7f}},
		{"\u0080\u07ff\u0800\ud7ff\ue000\uffff\U00010000\U0010ffff", []api.Cell{0x80, 0x7ff, 0x800, 0xd7ff, 0xe000, 0xffff, 0x10000, 0x10ffff}},
		{"\n\r\n", []api.Cell{0x0a, 0x0d, 0x0a}},
		{"\ufffd", []api.Cell{0xfffd}},
		{"\xef\ufffd\xbd", []api.Cell{-0xf0, 0xfffd, -0xbe}},
		{"\xef\xbfa", []api.Cell{-0xf0, -0xc0, 'a'}},
		{"\ufeffx", []api.Cell{0xfeff, 'x'}},
		{"\xc3", escapes("\xc3")},
		{"\x80\xbf", escapes("\x80\xbf")},
		{"\xc0\x80\xc1\xbf", escapes("\xc0\x80\xc1\xbf")},
		{"\xe0\x9f\xbf", escapes("\xe0\x9f\xbf")},
		{"\xf0\x8f\xbf\xbf", escapes("\xf0\x8f\xbf\xbf")},
		{"\xed\xa0\x80\xed\xbf\xbf", escapes("\xed\xa0\x80\xed\xbf\xbf")},
		{"\xf4\x90\x80\x80", escapes("\xf4\x90\x80\x80")},
		{"\xf5\xfe\xff", escapes("\xf5\xfe\xff")},
		{"\xf0\x9f\x98", escapes("\xf0\x9f\x98")},
		{"\xf0\x9f\x98\x80", []api.Cell{0x1f600}},
		{"\xe2\x82é", []api.Cell{-0xe3, -0x83, 0xe9}},
	} {
		if got := cell.Of(c.text); !slices.Equal(got, c.want) {
			t.Errorf("Of(%q) = %d, want %d", c.text, got, c.want)
		}
	}
}

func TestOfEveryScalar(t *testing.T) {
	around(t, func(c api.Cell) bool {
		return !isScalar(c) || slices.Equal(cell.Of(string(rune(c))), []api.Cell{c})
	})
}

func TestOfEveryByte(t *testing.T) {
	for b := 0x80; b <= 0xff; b++ {
		if got := cell.Of(string([]byte{byte(b)})); !slices.Equal(got, []api.Cell{api.Cell(-1 - b)}) {
			t.Errorf("Of(%02x) = %d", b, got)
		}
	}
}

// bytesOf is the way back from Of, told without it.
func bytesOf(l []api.Cell) string {
	var b []byte
	for _, c := range l {
		if isEscape(c) {
			b = append(b, byte(-1-c))
		} else {
			b = utf8.AppendRune(b, rune(c))
		}
	}
	return string(b)
}

// decoded is what Of must answer, one step of a decoder after the other.
func decoded(s string) []api.Cell {
	var l []api.Cell
	for s != "" {
		r, n := utf8.DecodeRuneInString(s)
		if n == 1 && s[0] >= 0x80 {
			l = append(l, api.Cell(-1-int(s[0])))
		} else {
			l = append(l, api.Cell(r))
		}
		s = s[n:]
	}
	return l
}

// edgeTexts are all texts of up to 4 bytes that stand at the edges of what begins, goes on, or ends a scalar.
func edgeTexts(visit func(s string)) {
	const edges = "a\x7f\x80\x8f\x90\x9f\xa0\xbd\xbf\xc1\xc2\xdf\xe0\xed\xef\xf0\xf4\xf5\xff"
	var grow func(s string)
	grow = func(s string) {
		visit(s)
		for i := 0; i < len(edges) && len(s) < 4; i++ {
			grow(s + edges[i:i+1])
		}
	}
	grow("")
}

func TestOfThereAndBack(t *testing.T) {
	edgeTexts(func(s string) {
		l := cell.Of(s)
		if !slices.Equal(l, decoded(s)) || bytesOf(l) != s {
			t.Fatalf("Of(%q) = %d", s, l)
		}
		for _, c := range l {
			if !cell.Right(c) {
				t.Fatalf("Of(%q) has %d", s, c)
			}
		}
	})
}

func TestText(t *testing.T) {
	for _, c := range []struct {
		cells []api.Cell
		want  string
	}{
		{nil, ""},
		{[]api.Cell{}, ""},
		{[]api.Cell{0x61, -256, 0xe9}, `a\xff\u{e9}`},
		{[]api.Cell{0x20, 0x7e}, ` ~`},
		{[]api.Cell{0x1f, 0x7f}, `\u{1f}\u{7f}`},
		{[]api.Cell{'\\'}, `\\`},
		{[]api.Cell{'\\', 'n', '\n'}, `\\n\n`},
		{[]api.Cell{'\t', '\r', 0}, `\u{9}\u{d}\u{0}`},
		{[]api.Cell{0x5b, 0x5d, '"', '{', '}'}, `[]"{}`},
		{[]api.Cell{0x80, 0xd7ff, 0xe000, 0xfffd, 0x10ffff}, `\u{80}\u{d7ff}\u{e000}\u{fffd}\u{10ffff}`},
		{[]api.Cell{-1, -10, -16, -17, -256}, `\x00\x09\x0f\x10\xff`},
		{[]api.Cell{0xd800, 0xdfff, -257, 0x110000, math.MinInt32, math.MaxInt32}, `\?\?\?\?\?\?`},
	} {
		if got := cell.Text(c.cells); got != c.want {
			t.Errorf("Text(%d) = %s, want %s", c.cells, got, c.want)
		}
	}
}

func shown(c api.Cell) string {
	switch {
	case isEscape(c):
		return fmt.Sprintf(`\x%02x`, -1-int(c))
	case !isScalar(c):
		return `\?`
	case c == '\\':
		return `\\`
	case c == 0x0a:
		return `\n`
	case c < 0x20 || c > 0x7e:
		return fmt.Sprintf(`\u{%x}`, int(c))
	}
	return string(rune(c))
}

func TestTextOfEveryCell(t *testing.T) {
	around(t, func(c api.Cell) bool {
		return cell.Text([]api.Cell{c}) == shown(c) && cell.Text([]api.Cell{'x', c, 'y'}) == "x"+shown(c)+"y"
	})
}

// read is the way back from Text of cells.
func read(t *testing.T, s string) []api.Cell {
	var l []api.Cell
	number := func(digits string) int {
		n, err := strconv.ParseInt(digits, 16, 32)
		if err != nil {
			t.Fatalf("%q: %v", s, err)
		}
		return int(n)
	}
	for s != "" {
		n := 2
		switch {
		case s[0] != '\\':
			l, n = append(l, api.Cell(s[0])), 1
		case s[1] == '\\':
			l = append(l, '\\')
		case s[1] == 'n':
			l = append(l, '\n')
		case s[1] == 'x':
			l, n = append(l, api.Cell(-1-number(s[2:4]))), 4
		case s[1] == 'u':
			n = strings.IndexByte(s, '}') + 1
			l = append(l, api.Cell(number(s[3:n-1])))
		default:
			t.Fatalf("no cell: %q", s)
		}
		s = s[n:]
	}
	return l
}

func TestTextThereAndBack(t *testing.T) {
	edgeTexts(func(s string) {
		l := cell.Of(s)
		if text := cell.Text(l); !slices.Equal(read(t, text), l) {
			t.Fatalf("Text(%d) = %s", l, text)
		}
	})
	rows([]api.Cell{-256, -16, -1, 0, '\n', '\\', 'n', 'u', 'x', '{', '0', 0x10ffff}, 3, func(l []api.Cell) {
		if text := cell.Text(l); !slices.Equal(read(t, text), l) {
			t.Fatalf("Text(%d) = %s", l, text)
		}
	})
}

// rows are all rows of up to most of some cells.
func rows(some []api.Cell, most int, visit func(l []api.Cell)) {
	var grow func(l []api.Cell)
	grow = func(l []api.Cell) {
		visit(l)
		for i := 0; i < len(some) && len(l) < most; i++ {
			grow(append(slices.Clone(l), some[i]))
		}
	}
	grow(nil)
}

func TestCompare(t *testing.T) {
	for _, c := range []struct {
		a, b []api.Cell
		want int
	}{
		{nil, nil, 0},
		{nil, []api.Cell{}, 0},
		{nil, []api.Cell{-256}, -1},
		{[]api.Cell{-256}, nil, 1},
		{cell.Of("abc"), cell.Of("abc"), 0},
		{cell.Of("ab"), cell.Of("abc"), -1},
		{cell.Of("abc"), cell.Of("ab"), 1},
		{cell.Of("b"), cell.Of("abc"), 1},
		{cell.Of("abc"), cell.Of("b"), -1},
		{cell.Of("xaz"), cell.Of("xbay"), -1},
		{cell.Of("a"), cell.Of("z"), -1},
		{[]api.Cell{-256}, []api.Cell{-1}, -1},
		{[]api.Cell{-1}, []api.Cell{0}, -1},
		{[]api.Cell{0x10ffff}, []api.Cell{-1}, 1},
		{[]api.Cell{0xffff}, []api.Cell{0x10000}, -1},
		{[]api.Cell{math.MinInt32}, []api.Cell{math.MaxInt32}, -1},
		{[]api.Cell{math.MaxInt32}, []api.Cell{math.MinInt32}, 1},
		{[]api.Cell{0xd800}, []api.Cell{0xdfff}, -1},
	} {
		if got := cell.Compare(c.a, c.b); got != c.want {
			t.Errorf("Compare(%d, %d) = %d, want %d", c.a, c.b, got, c.want)
		}
	}
}

func compared(a, b []api.Cell) int {
	for i := 0; i < len(a) && i < len(b); i++ {
		if a[i] < b[i] {
			return -1
		}
		if a[i] > b[i] {
			return 1
		}
	}
	switch {
	case len(a) < len(b):
		return -1
	case len(a) > len(b):
		return 1
	}
	return 0
}

func TestCompareEveryRow(t *testing.T) {
	some := []api.Cell{math.MinInt32, -256, -1, 0, 0x10ffff}
	rows(some, 3, func(a []api.Cell) {
		rows(some, 3, func(b []api.Cell) {
			if got := cell.Compare(a, b); got != compared(a, b) || got != -cell.Compare(b, a) {
				t.Fatalf("Compare(%d, %d) = %d", a, b, got)
			}
		})
	})
}

func TestFind(t *testing.T) {
	for _, c := range []struct {
		l, sub string
		from   int
		want   int
	}{
		{"abcabc", "abc", 0, 0},
		{"abcabc", "abc", 1, 3},
		{"abcabc", "abc", 3, 3},
		{"abcabc", "abc", 4, -1},
		{"abcabc", "abc", -1, 0},
		{"abcabc", "bc", math.MinInt, 1},
		{"abcabc", "c", math.MaxInt, -1},
		{"abcabc", "cb", 0, -1},
		{"aab", "ab", 0, 1},
		{"aaab", "aab", 0, 1},
		{"abab", "abb", 0, -1},
		{"ab", "abc", 0, -1},
		{"", "a", 0, -1},
		{"abc", "c", 2, 2},
		{"abc", "c", 3, -1},
		{"abc", "abc", 0, 0},
		{"abc", "", 0, 0},
		{"abc", "", 2, 2},
		{"abc", "", 3, 3},
		{"abc", "", 4, -1},
		{"abc", "", -7, 0},
		{"abc", "", math.MaxInt, -1},
		{"abc", "", math.MinInt, 0},
		{"", "", 0, 0},
		{"", "", -1, 0},
		{"", "", 1, -1},
		{"é\xa9\xc3é", "\xa9\xc3", 0, 1},
		{"é\xc3", "\xc3", 0, 1},
		{"x\U0010ffff\xff", "\U0010ffff\xff", 0, 1},
	} {
		if got := cell.Find(cell.Of(c.l), cell.Of(c.sub), c.from); got != c.want {
			t.Errorf("Find(%q, %q, %d) = %d, want %d", c.l, c.sub, c.from, got, c.want)
		}
	}
}

func found(l, sub []api.Cell, from int) int {
	for at := 0; at <= len(l); at++ {
		if at >= from && at+len(sub) <= len(l) && slices.Equal(l[at:at+len(sub)], sub) {
			return at
		}
	}
	return -1
}

func TestFindEveryRow(t *testing.T) {
	some := []api.Cell{-1, 'a'}
	rows(some, 6, func(l []api.Cell) {
		rows(some, 4, func(sub []api.Cell) {
			for from := -2; from <= len(l)+2; from++ {
				if got := cell.Find(l, sub, from); got != found(l, sub, from) {
					t.Fatalf("Find(%d, %d, %d) = %d", l, sub, from, got)
				}
			}
		})
	})
}

func TestCut(t *testing.T) {
	l := []api.Cell{'a', -256, 0x10ffff, 0xd800}
	for from := -2; from <= len(l)+2; from++ {
		for to := -2; to <= len(l)+2; to++ {
			got, e := cell.Cut(l, from, to)
			if from < 0 || from > to || to > len(l) {
				if e != api.ErrArg || len(got) != 0 {
					t.Errorf("Cut(%d, %d) = %d, %d", from, to, got, e)
				}
			} else if e != api.OK || !slices.Equal(got, l[from:to]) {
				t.Errorf("Cut(%d, %d) = %d, %d", from, to, got, e)
			}
		}
	}
}

func TestCutFarAway(t *testing.T) {
	l := cell.Of("abc")
	far := []int{math.MinInt, math.MinInt32, math.MaxInt32, math.MaxInt}
	for _, a := range far {
		for _, b := range append(far, 0, 3) {
			for _, p := range [][2]int{{a, b}, {b, a}} {
				if got, e := cell.Cut(l, p[0], p[1]); e != api.ErrArg || len(got) != 0 {
					t.Errorf("Cut(%d, %d) = %d, %d", p[0], p[1], got, e)
				}
			}
		}
	}
}
