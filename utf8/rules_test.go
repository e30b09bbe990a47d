package utf8_test

import (
	"bytes"
	"go/parser"
	"go/token"
	"math"
	"os"
	"slices"
	"strconv"
	"strings"
	"testing"

	"redactor/api"
	"redactor/cell"
	"redactor/utf8"
)

// What the calls are, as the chapter lists them: another signature would not compile.
var (
	_ func([]byte) []api.Cell              = utf8.Decode
	_ func([]api.Cell) ([]byte, api.Errno) = utf8.Encode
	_ func([]api.Cell) bool                = utf8.Canonical
)

// R1: with an error there are no bytes, however many cells stand ahead of the wrong one.
func TestErrorHasNoBytes(t *testing.T) {
	for n := range 40 {
		l := append(slices.Repeat([]api.Cell{'a'}, n), 0xd800)
		if b, e := utf8.Encode(l); e != api.ErrCell || len(b) != 0 {
			t.Errorf("Encode(%d) = %x, %d", l, b, e)
		}
	}
}

// R2: what is handed in stays as it is, up to its memory's end.
func TestHandedInStays(t *testing.T) {
	text := []byte("a\xc3\xa9\xff\xef\xbf\xbd\xc3\xa9")
	textBefore := slices.Clone(text)
	utf8.Decode(text[:5])
	utf8.Decode(text[:0])
	if !bytes.Equal(text, textBefore) {
		t.Errorf("now %x, before %x", text, textBefore)
	}
	cells := []api.Cell{'a', -0xc4, -0xaa, 0xd800, 'b', 'c'}
	before := slices.Clone(cells)
	for n := range len(cells) + 1 {
		utf8.Encode(cells[:n])
		utf8.Canonical(cells[:n])
	}
	if !slices.Equal(cells, before) {
		t.Errorf("now %d, before %d", cells, before)
	}
}

// R2: what was handed in may be written over later.
func TestHandedInIsNotKept(t *testing.T) {
	text := []byte("a\xc3\xa9\xff")
	l := utf8.Decode(text)
	clear(text)
	if !slices.Equal(l, []api.Cell{'a', 0xe9, -256}) {
		t.Errorf("Decode keeps its bytes: %d", l)
	}
	b, _ := utf8.Encode(l)
	clear(l)
	if string(b) != "a\xc3\xa9\xff" {
		t.Errorf("Encode keeps its cells: %x", b)
	}
}

// R2: what comes out is new memory, whoever writes to it or lays more behind it.
func TestComesOutNew(t *testing.T) {
	text := []byte("ab\xff")
	l, other := utf8.Decode(text), utf8.Decode(text)
	l[0] = 'x'
	l = append(l, 'y')
	if !slices.Equal(other, []api.Cell{'a', 'b', -256}) || !slices.Equal(utf8.Decode(text), other) || string(text) != "ab\xff" {
		t.Errorf("%d, %d share memory", l, other)
	}
	b, _ := utf8.Encode(other)
	c, _ := utf8.Encode(other)
	b[0] = 'x'
	b = append(b, 'y')
	again, _ := utf8.Encode(other)
	if string(c) != "ab\xff" || string(again) != "ab\xff" || string(b) != "xb\xffy" {
		t.Errorf("%x, %x, %x share memory", b, c, again)
	}
}

// R2: what lies behind a list's length is not of it: a sequence may not be made whole by it.
func TestBehindTheLength(t *testing.T) {
	for _, edge := range edges {
		whole := []byte(edge.s)
		for n := range len(whole) {
			l := utf8.Decode(whole[:n])
			if !slices.Equal(l, escapes(edge.s[:n])) {
				t.Errorf("Decode reads behind %x: %d", whole[:n], l)
			}
			for _, c := range l[len(l):cap(l)] {
				if c != 0 {
					t.Errorf("Decode hands out %d behind %x", c, whole[:n])
				}
			}
		}
	}
	cells := []api.Cell{-0xc4, -0xaa, 0xd800}
	if b, e := utf8.Encode(cells[:2]); string(b) != "\xc3\xa9" || e != api.OK {
		t.Errorf("Encode reads behind: %x, %d", b, e)
	}
	if !utf8.Canonical(cells[:1]) || utf8.Canonical(cells[:2]) || utf8.Canonical(cells) {
		t.Error("Canonical reads behind")
	}
}

// R4: a call knows nothing of those ahead of it: neither an error nor half a sequence is carried on.
func TestCallsKeepNothing(t *testing.T) {
	ask := func() string {
		l := utf8.Decode([]byte("\xa9a\xc3"))
		b, e := utf8.Encode(l)
		return cell.Text(l) + string(b) + strconv.Itoa(int(e)) + strconv.FormatBool(utf8.Canonical(l))
	}
	first := ask()
	utf8.Decode([]byte("\xc3"))
	utf8.Encode([]api.Cell{-0xc4})
	utf8.Encode([]api.Cell{math.MaxInt32})
	utf8.Canonical([]api.Cell{0xd800})
	if again := ask(); again != first || first != `\xa9a\xc3`+"\xa9a\xc30true" {
		t.Errorf("first %q, then %q", first, again)
	}
}

// R5, and that the layer stands on api and cell: what it imports can neither print, nor wait, nor ask a clock.
func TestStandsOnApiAndCell(t *testing.T) {
	may := []string{"redactor/api", "redactor/cell", "slices", "unicode/utf8"}
	files, err := os.ReadDir(".")
	if err != nil {
		t.Fatal(err)
	}
	for _, f := range files {
		if !strings.HasSuffix(f.Name(), ".go") || strings.HasSuffix(f.Name(), "_test.go") {
			continue
		}
		tree, err := parser.ParseFile(token.NewFileSet(), f.Name(), nil, parser.ImportsOnly)
		if err != nil {
			t.Fatal(err)
		}
		for _, i := range tree.Imports {
			if path, _ := strconv.Unquote(i.Path.Value); !slices.Contains(may, path) {
				t.Errorf("%s imports %s", f.Name(), path)
			}
		}
	}
}

// R6: no list and an empty one are the same thing, wherever the empty one lies.
func TestNilIsEmpty(t *testing.T) {
	text := []byte("\xc3\xa9")
	for _, b := range [][]byte{nil, {}, text[:0], text[2:]} {
		if got := utf8.Decode(b); len(got) != 0 {
			t.Errorf("Decode(%#v) = %d", b, got)
		}
	}
	cells := []api.Cell{0xd800, -1}
	for _, l := range [][]api.Cell{nil, {}, cells[:0], cells[2:]} {
		if got, e := utf8.Encode(l); len(got) != 0 || e != api.OK || !utf8.Canonical(l) {
			t.Errorf("Encode(%#v) = %x, %d", l, got, e)
		}
	}
}

// T2: whatever bytes there are, and however they are cut into two, they come back.
func TestBytesComeBack(t *testing.T) {
	text := []byte("\xef\xbb\xbfa\r\n\xc3\xa9\xff\xfe\x00\xed\xa0\x80\xed\xb0\x80\xf4\x90\x80\x80\xc0\xaf\n\xf0\x9f\x98\x80\xe2\x82\x80\xf0\x9f\x98")
	checkBytes(t, text)
	for at := range len(text) + 1 {
		head, e := utf8.Encode(utf8.Decode(text[:at]))
		tail, f := utf8.Encode(utf8.Decode(text[at:]))
		if !bytes.Equal(append(head, tail...), text) || e != api.OK || f != api.OK {
			t.Errorf("cut at %d: %x, %x", at, head, tail)
		}
	}
}

// T4: characters are the same cells as those of a text of the program.
func TestCharactersAreThoseOfCell(t *testing.T) {
	edgeTexts(func(b []byte) {
		if l := utf8.Decode(b); cell.Compare(l, cell.Of(string(b))) != 0 {
			t.Fatalf("Decode(%x) = %d", b, l)
		}
	})
}

// T5: each call ends with an answer, whatever it is asked: many bytes and many cells, too.
func TestAnyInput(t *testing.T) {
	for _, s := range append(slices.Clone(none), "\xc3", "\xe2\x82", "\xf0\x9f\x98", "\xef\xbf\xbd", "a") {
		checkBytes(t, bytes.Repeat([]byte(s), 1000))
	}
	rows(append(slices.Clone(wrong), -256, -1, 0, 0xfffd), 2, func(l []api.Cell) { checkCells(t, l) })
	many := slices.Repeat([]api.Cell{0x10ffff}, 100000)
	if b, e := utf8.Encode(many); len(b) != 400000 || e != api.OK || !utf8.Canonical(many) {
		t.Errorf("Encode of many has %d bytes, %d", len(b), e)
	}
	if b, e := utf8.Encode(append(many, 0x110000)); len(b) != 0 || e != api.ErrCell {
		t.Errorf("Encode of many and a wrong one has %d bytes, %d", len(b), e)
	}
}

func FuzzDecode(f *testing.F) {
	for _, s := range []string{"", "\xc3\xa9\xc3", "\xef\xbf\xbd\xef\xbf", "\xed\xa0\x80", "\xf4\x8f\xbf\xbf\xf4\x90"} {
		f.Add([]byte(s))
	}
	f.Fuzz(func(t *testing.T, b []byte) { checkBytes(t, b) })
}

// FuzzEncode makes cells of four bytes each, with those that are none among them.
func FuzzEncode(f *testing.F) {
	for _, s := range []string{"", "\xff\xff\xff\x3c\xff\xff\xff\x56", "\x00\x00\xd8\x00", "\x00\x00\x00\xe9\x00\x00\xff\xfd"} {
		f.Add([]byte(s))
	}
	f.Fuzz(func(t *testing.T, b []byte) {
		var l []api.Cell
		for ; len(b) >= 4; b = b[4:] {
			l = append(l, api.Cell(int32(b[0])<<24|int32(b[1])<<16|int32(b[2])<<8|int32(b[3])))
		}
		checkCells(t, l)
	})
}
