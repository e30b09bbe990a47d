package utf16_test

import (
	"bytes"
	"go/parser"
	"go/token"
	"math"
	"os"
	"slices"
	"strconv"
	"strings"
	"testing"

	"redactor/api"
	"redactor/cell"
	"redactor/utf16"
	"redactor/utf8"
)

// What the calls are, as the chapter lists them: another signature would not compile.
var (
	_ func([]byte, bool) []api.Cell              = utf16.Decode
	_ func([]api.Cell, bool) ([]byte, api.Errno) = utf16.Encode
	_ func([]api.Cell) bool                      = utf16.Canonical
)

// R1: with an error there are no bytes, however many cells stand ahead of the wrong one.
func TestErrorHasNoBytes(t *testing.T) {
	for n := range 40 {
		expectNoCell(t, append(slices.Repeat([]api.Cell{'a'}, n), 0xd800))
	}
}

// R2: what is handed in stays as it is, up to its memory's end.
func TestHandedInStays(t *testing.T) {
	text := []byte("\x00a\xd8\x3d\xde\x00\xdc\x00\x00b\xd8")
	textBefore := slices.Clone(text)
	cells := []api.Cell{'a', -0xd9, -1, 0x1f600, 0xd800, 'b', 'c'}
	before := slices.Clone(cells)
	for _, big := range orders {
		for n := range len(text) + 1 {
			utf16.Decode(text[:n], big)
		}
		for n := range len(cells) + 1 {
			utf16.Encode(cells[:n], big)
			utf16.Canonical(cells[:n])
		}
	}
	if !bytes.Equal(text, textBefore) {
		t.Errorf("now %x, before %x", text, textBefore)
	}
	if !slices.Equal(cells, before) {
		t.Errorf("now %d, before %d", cells, before)
	}
}

// R2: what was handed in may be written over later.
func TestHandedInIsNotKept(t *testing.T) {
	for _, big := range orders {
		text := append(units(big, 'a', 0xd83d, 0xde00, 0xdc00), 0xff)
		before := slices.Clone(text)
		l := utf16.Decode(text, big)
		clear(text)
		if want := decoded(before, big); !slices.Equal(l, want) {
			t.Errorf("Decode keeps its bytes: %d, want %d", l, want)
		}
		b, _ := utf16.Encode(l, big)
		clear(l)
		if !bytes.Equal(b, before) {
			t.Errorf("Encode keeps its cells: %x", b)
		}
	}
}

// R2: what comes out is new memory, whoever writes to it or lays more behind it.
func TestComesOutNew(t *testing.T) {
	text := []byte("\x00a\x00b\xff")
	want := []api.Cell{'a', 'b', -256}
	l, other := utf16.Decode(text, true), utf16.Decode(text, true)
	l[0] = 'x'
	l = append(l, 'y')
	if !slices.Equal(other, want) || !slices.Equal(utf16.Decode(text, true), want) || string(text) != "\x00a\x00b\xff" {
		t.Errorf("%d, %d share memory", l, other)
	}
	b, _ := utf16.Encode(want, true)
	c, _ := utf16.Encode(want, true)
	b[1] = 'x'
	b = append(b, 'y')
	again, _ := utf16.Encode(want, true)
	if string(c) != string(text) || string(again) != string(text) || string(b) != "\x00x\x00b\xffy" {
		t.Errorf("%x, %x, %x share memory", b, c, again)
	}
}

// R2: what lies behind a list's length is not of it: neither a unit nor a pair may be made whole by it.
func TestBehindTheLength(t *testing.T) {
	for _, big := range orders {
		for at := range edges {
			whole := edgeBytes(at, big)
			for n := range len(whole) {
				expectDecode(t, whole[:n], big, escapes(whole[:n]))
				expectNoughtsBehind(t, utf16.Decode(whole[:n], big))
			}
		}
	}
	cells := []api.Cell{'a', -1, -1 - 'a', 0xd800}
	expectEncode(t, cells[:3], true, []byte("\x00a\x00a"))
	expectEncode(t, cells[:3], false, []byte("a\x00\x00a"))
	expectCanonical(t, cells[:1], true)
	expectCanonical(t, cells[:2], true)
	expectCanonical(t, cells[:3], false)
	expectCanonical(t, cells, false)
}

func expectNoughtsBehind(t *testing.T, l []api.Cell) {
	t.Helper()
	for _, c := range l[len(l):cap(l)] {
		if c != 0 {
			t.Errorf("%d is handed out behind %d", c, l)
		}
	}
}

// R4: a call knows nothing of those ahead of it: neither an error, nor half a pair, nor an order is carried on.
func TestCallsKeepNothing(t *testing.T) {
	ask := func() string {
		l := utf16.Decode([]byte("\xde\x00\x00a\xd8"), true)
		b, e := utf16.Encode(l, true)
		other := utf16.Decode(b, false)
		return cell.Text(l) + " " + cell.Text(other) + " " + strconv.Itoa(int(e)) + strconv.FormatBool(utf16.Canonical(l))
	}
	first := ask()
	utf16.Decode([]byte("\xd8\x3d"), true)
	utf16.Decode([]byte("\x3d\xd8\x00"), false)
	utf16.Encode([]api.Cell{-0xd9}, false)
	utf16.Encode([]api.Cell{math.MaxInt32}, true)
	utf16.Canonical([]api.Cell{0xd800})
	if again := ask(); again != first || first != `\xde\x00a\xd8 \u{de}\u{6100}\xd8 0false` {
		t.Errorf("first %s, then %s", first, again)
	}
}

// R5, and that the layer stands on api and cell: what it imports can neither print, nor wait, nor ask a clock.
func TestStandsOnApiAndCell(t *testing.T) {
	may := []string{"redactor/api", "redactor/cell", "slices"}
	files, err := os.ReadDir(".")
	if err != nil {
		t.Fatal(err)
	}
	for _, f := range files {
		if !strings.HasSuffix(f.Name(), ".go") || strings.HasSuffix(f.Name(), "_test.go") {
			continue
		}
		tree, err := parser.ParseFile(token.NewFileSet(), f.Name(), nil, parser.ImportsOnly)
		if err != nil {
			t.Fatal(err)
		}
		for _, i := range tree.Imports {
			if path, _ := strconv.Unquote(i.Path.Value); !slices.Contains(may, path) {
				t.Errorf("%s imports %s", f.Name(), path)
			}
		}
	}
}

// R6: no list and an empty one are the same thing, wherever the empty one lies.
func TestNilIsEmpty(t *testing.T) {
	text := []byte("\x00a\x00b")
	cells := []api.Cell{0xd800, -1}
	for _, big := range orders {
		for _, b := range [][]byte{nil, {}, text[:0], text[2:2], text[4:]} {
			expectDecode(t, b, big, nil)
		}
		for _, l := range [][]api.Cell{nil, {}, cells[:0], cells[2:]} {
			expectEncode(t, l, big, nil)
			expectCanonical(t, l, true)
		}
	}
}

// T2: whatever bytes there are, and however they are cut into two, they come back.
func TestBytesComeBack(t *testing.T) {
	text := []byte("\xfe\xff\x00a\x00\r\x00\n\xff\xfe\xd8\x3d\xde\x00\xdc\x00\xd8\x00\x00\n\xd8\x00\xdb\xff\xdf\xff\xff\xd8a\x00\x00\xd8\xd8")
	checkBytes(t, text)
	for _, big := range orders {
		for at := range len(text) + 1 {
			head, e := utf16.Encode(utf16.Decode(text[:at], big), big)
			tail, f := utf16.Encode(utf16.Decode(text[at:], big), big)
			if !bytes.Equal(append(head, tail...), text) || e != api.OK || f != api.OK {
				t.Errorf("cut at %d: %x, %x", at, head, tail)
			}
		}
	}
}

// T4: the same characters are the same cells, in both orders and in UTF-8.
func TestCharactersAreThoseOfUtf8(t *testing.T) {
	for _, s := range []string{"", "a", "abc\r\n", "é€\u0000\ud7ff\ue000\ufeff\ufffd\uffff", "x\U00010000\U0001f600y\U0010ffff"} {
		var numbers []int
		for _, r := range s {
			numbers = append(numbers, numbersOf(api.Cell(r))...)
		}
		l := utf8.Decode([]byte(s))
		for _, big := range orders {
			expectDecode(t, units(big, numbers...), big, l)
			expectEncode(t, l, big, units(big, numbers...))
		}
		if !utf16.Canonical(l) {
			t.Errorf("Canonical of %q is false", s)
		}
	}
}

// T5: each call ends with an answer, whatever it is asked: many bytes and many cells, too.
func TestAnyInput(t *testing.T) {
	for _, s := range []string{"\x00", "a", "\xd8", "\xdc", "\xff", "\xd8\x00", "\x00\xdc", "\xd8\x3d\xde", "\xd8\x3d\xde\x00"} {
		checkBytes(t, bytes.Repeat([]byte(s), 1001))
	}
	rows(append(slices.Clone(wrong), -256, -0xd9, -1, 0, 0xfffd), 2, func(l []api.Cell) { checkCells(t, l) })
	many := slices.Repeat([]api.Cell{0x10ffff}, 100000)
	expectCanonical(t, many, true)
	for _, big := range orders {
		if b, e := utf16.Encode(many, big); len(b) != 400000 || e != api.OK {
			t.Errorf("Encode of many has %d bytes, %d", len(b), e)
		}
		if b, e := utf16.Encode(append(many, 0x110000), big); len(b) != 0 || e != api.ErrCell {
			t.Errorf("Encode of many and a wrong one has %d bytes, %d", len(b), e)
		}
	}
}

func FuzzDecode(f *testing.F) {
	for _, s := range []string{"", "\xd8\x3d\xde\x00a", "\xd8\x00\x00\x41", "\x3d\xd8\x00\xde", "\xdc\x00\xd8\x00", "\xff\xfea\x00\x00"} {
		f.Add([]byte(s))
	}
	f.Fuzz(func(t *testing.T, b []byte) { checkBytes(t, b) })
}

// FuzzEncode makes cells of four bytes each, with those that are none among them.
func FuzzEncode(f *testing.F) {
	for _, s := range []string{"", "\xff\xff\xff\x27\xff\xff\xff\xff", "\x00\x00\xd8\x00", "\x00\x00\x00\xe9\x00\x01\xf6\x00", "\xff\xff\xff\x27\x00\x00\x00\x61"} {
		f.Add([]byte(s))
	}
	f.Fuzz(func(t *testing.T, b []byte) {
		var l []api.Cell
		for ; len(b) >= 4; b = b[4:] {
			l = append(l, api.Cell(int32(b[0])<<24|int32(b[1])<<16|int32(b[2])<<8|int32(b[3])))
		}
		checkCells(t, l)
	})
}
