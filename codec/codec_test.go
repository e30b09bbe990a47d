package codec_test

import (
	"bytes"
	"math"
	"slices"
	"testing"
	library16 "unicode/utf16"
	library8 "unicode/utf8"

	"redactor/api"
	"redactor/codec"
)

// encs are the three encodings.
var encs = []uint8{api.UTF8, api.UTF16, api.Latin1}

func isScalar(c api.Cell) bool {
	return c >= 0 && c <= 0x10ffff && (c < 0xd800 || c > 0xdfff)
}

func isEscape(c api.Cell) bool { return c >= -256 && c <= -1 }

func escapes(b []byte) []api.Cell {
	var l []api.Cell
	for _, n := range b {
		l = append(l, -1-api.Cell(n))
	}
	return l
}

// units are bytes of a scalar in UTF-16.
func units(c api.Cell, big bool) []byte {
	var b []byte
	for _, n := range library16.AppendRune(nil, rune(c)) {
		if big {
			b = append(b, byte(n>>8), byte(n))
		} else {
			b = append(b, byte(n), byte(n>>8))
		}
	}
	return b
}

// scalar16 is the scalar whose units stand at the beginning, and how many bytes these have; 0: there is none.
func scalar16(b []byte, big bool) (api.Cell, int) {
	number := func(at int) rune {
		if big {
			return rune(b[at])<<8 | rune(b[at+1])
		}
		return rune(b[at+1])<<8 | rune(b[at])
	}
	if len(b) >= 2 && !library16.IsSurrogate(number(0)) {
		return api.Cell(number(0)), 2
	}
	if len(b) >= 4 {
		if r := library16.DecodeRune(number(0), number(2)); r != 0xfffd {
			return api.Cell(r), 4
		}
	}
	return 0, 0
}

// cellsOf are the cells of bytes without a mark, told without the program.
func cellsOf(enc uint8, b []byte, big bool) []api.Cell {
	var l []api.Cell
	for len(b) > 0 {
		c, n, over := api.Cell(b[0]), 1, 1
		switch enc {
		case api.UTF8:
			r, size := library8.DecodeRune(b)
			c, n = api.Cell(r), size
			if r == 0xfffd && size == 1 {
				n = 0
			}
		case api.UTF16:
			over = min(2, len(b))
			c, n = scalar16(b, big)
		}
		if n > 0 {
			l = append(l, c)
		} else {
			n = over
			l = append(l, escapes(b[:n])...)
		}
		b = b[n:]
	}
	return l
}

// decoded is what Decode must answer, told without it.
func decoded(enc uint8, b []byte) (api.Doc, api.Errno) {
	switch {
	case enc < 1 || enc > 3:
		return api.Doc{}, api.ErrArg
	case enc != api.UTF16:
		return api.Doc{Enc: enc, Cells: cellsOf(enc, b, false)}, api.OK
	case len(b) >= 2 && b[0] == 0xfe && b[1] == 0xff:
		return api.Doc{Enc: enc, Big: true, Bom: true, Cells: cellsOf(enc, b[2:], true)}, api.OK
	case len(b) >= 2 && b[0] == 0xff && b[1] == 0xfe:
		return api.Doc{Enc: enc, Bom: true, Cells: cellsOf(enc, b[2:], false)}, api.OK
	}
	return api.Doc{Enc: enc, Big: true, Cells: cellsOf(enc, b, true)}, api.OK
}

// refused is the error that Encode must answer, told without it.
func refused(d api.Doc) api.Errno {
	if d.Enc < 1 || d.Enc > 3 || d.Enc != api.UTF16 && (d.Big || d.Bom) {
		return api.ErrArg
	}
	for _, c := range d.Cells {
		if !isScalar(c) && !isEscape(c) {
			return api.ErrCell
		}
	}
	if d.Enc == api.Latin1 && len(d.Cells) > 0 && slices.Max(d.Cells) > 0xff {
		return api.ErrEncode
	}
	return api.OK
}

// encoded is what Encode must answer, told without it.
func encoded(d api.Doc) ([]byte, api.Errno) {
	if e := refused(d); e != api.OK {
		return nil, e
	}
	var b []byte
	if d.Bom {
		b = append(b, units(0xfeff, d.Big)...)
	}
	for _, c := range d.Cells {
		switch {
		case isEscape(c):
			b = append(b, byte(-1-c))
		case d.Enc == api.UTF8:
			b = library8.AppendRune(b, rune(c))
		case d.Enc == api.UTF16:
			b = append(b, units(c, d.Big)...)
		default:
			b = append(b, byte(c))
		}
	}
	return b, api.OK
}

func sameDoc(d, other api.Doc) bool {
	return d.Enc == other.Enc && d.Big == other.Big && d.Bom == other.Bom && slices.Equal(d.Cells, other.Cells)
}

func expectDecode(t *testing.T, enc uint8, b []byte, want api.Doc) {
	t.Helper()
	want.Enc = enc
	if got, e := codec.Decode(enc, b); !sameDoc(got, want) || e != api.OK {
		t.Errorf("Decode(%d, %x) = %v, %d, want %v", enc, b, got, e, want)
	}
	if back, e := codec.Encode(want); !bytes.Equal(back, b) || e != api.OK {
		t.Errorf("Encode(%v) = %x, %d, want %x", want, back, e, b)
	}
}

func expectEncode(t *testing.T, d api.Doc, want []byte) {
	t.Helper()
	if got, e := codec.Encode(d); !bytes.Equal(got, want) || e != api.OK {
		t.Errorf("Encode(%v) = %x, %d, want %x", d, got, e, want)
	}
}

func expectRefused(t *testing.T, d api.Doc, want api.Errno) {
	t.Helper()
	if got, e := codec.Encode(d); len(got) != 0 || e != want {
		t.Errorf("Encode(%v) = %x, %d, want %d", d, got, e, want)
	}
}

// checkBytes holds the promises about bytes, in each encoding, against a decoder of the test's own.
func checkBytes(t *testing.T, b []byte) {
	t.Helper()
	for _, enc := range encs {
		d, e := codec.Decode(enc, b)
		if want, _ := decoded(enc, b); !sameDoc(d, want) || e != api.OK {
			t.Fatalf("Decode(%d, %x) = %v, %d", enc, b, d, e)
		}
		if back, e := codec.Encode(d); !bytes.Equal(back, b) || e != api.OK {
			t.Fatalf("Encode(Decode(%d, %x)) = %x, %d", enc, b, back, e)
		}
	}
}

// checkDoc holds the promises about a document against an encoder of the test's own.
func checkDoc(t *testing.T, d api.Doc) {
	t.Helper()
	want, wantE := encoded(d)
	if got, e := codec.Encode(d); !bytes.Equal(got, want) || e != wantE {
		t.Fatalf("Encode(%v) = %x, %d, want %x, %d", d, got, e, want, wantE)
	}
}

// checkCells asks for all documents of some cells: of each encoding, and of what is none, with each order and mark.
func checkCells(t *testing.T, l []api.Cell) {
	t.Helper()
	for enc := range uint8(5) {
		for _, big := range []bool{true, false} {
			for _, bom := range []bool{true, false} {
				checkDoc(t, api.Doc{Enc: enc, Big: big, Bom: bom, Cells: l})
			}
		}
	}
}

func TestExamples(t *testing.T) {
	expectDecode(t, api.UTF16, []byte{0xff, 0xfe, 0x61, 0x00}, api.Doc{Bom: true, Cells: []api.Cell{0x61}})
	expectRefused(t, api.Doc{Enc: api.Latin1, Cells: []api.Cell{0x100}}, api.ErrEncode)
}

func TestUtf8(t *testing.T) {
	for _, c := range []struct {
		text string
		want []api.Cell
	}{
		{"abc\r\n", []api.Cell{'a', 'b', 'c', '\r', '\n'}},
		{"é€\U0001f600", []api.Cell{0xe9, 0x20ac, 0x1f600}},
		{"\x00\xc3\xa9\xc3", []api.Cell{0, 0xe9, -0xc4}},
		{"\xff\xed\xa0\x80", []api.Cell{-256, -0xee, -0xa1, -0x81}},
		// The marks of UTF-16 are bytes of no scalar here.
		{"\xfe\xff", []api.Cell{-255, -256}},
		{"\xff\xfea\x00", []api.Cell{-256, -255, 'a', 0}},
		// What would be a mark elsewhere is a scalar like any other.
		{"\xef\xbb\xbf", []api.Cell{0xfeff}},
		{"\xef\xbb\xbfa", []api.Cell{0xfeff, 'a'}},
		{"\xef\xbb\xbf\xef\xbb\xbf", []api.Cell{0xfeff, 0xfeff}},
		{"a\xef\xbb\xbf", []api.Cell{'a', 0xfeff}},
		{"\xef\xbb", []api.Cell{-0xf0, -0xbc}},
	} {
		expectDecode(t, api.UTF8, []byte(c.text), api.Doc{Cells: c.want})
	}
}

func TestUtf16(t *testing.T) {
	for _, c := range []struct {
		text string
		big  bool
		bom  bool
		want []api.Cell
	}{
		{"\xfe\xff\x00a\x20\xac", true, true, []api.Cell{'a', 0x20ac}},
		{"\xff\xfea\x00\xac\x20", false, true, []api.Cell{'a', 0x20ac}},
		{"\x00a\x20\xac", true, false, []api.Cell{'a', 0x20ac}},
		{"a\x00\xac\x20", true, false, []api.Cell{0x6100, 0xac20}},
		{"\xfe\xff\xd8\x3d\xde\x00", true, true, []api.Cell{0x1f600}},
		{"\xff\xfe\x3d\xd8\x00\xde", false, true, []api.Cell{0x1f600}},
		{"\xd8\x3d\xde\x00", true, false, []api.Cell{0x1f600}},
		// A mark alone.
		{"\xfe\xff", true, true, nil},
		{"\xff\xfe", false, true, nil},
		// A mark behind a mark is a scalar, of its own order or of the other one.
		{"\xfe\xff\xfe\xff", true, true, []api.Cell{0xfeff}},
		{"\xff\xfe\xff\xfe", false, true, []api.Cell{0xfeff}},
		{"\xfe\xff\xff\xfe", true, true, []api.Cell{0xfffe}},
		{"\xff\xfe\xfe\xff", false, true, []api.Cell{0xfffe}},
		{"\xff\xfe\xff\xfe\xff\xfea\x00", false, true, []api.Cell{0xfeff, 0xfeff, 'a'}},
		// One byte of a mark, alone and ahead of others.
		{"\xfe", true, false, []api.Cell{-255}},
		{"\xff", true, false, []api.Cell{-256}},
		{"\xfea", true, false, []api.Cell{0xfe61}},
		{"\xff\x00", true, false, []api.Cell{0xff00}},
		{"\xff\x00\x00a", true, false, []api.Cell{0xff00, 'a'}},
		{"\xfe\xfe", true, false, []api.Cell{0xfefe}},
		{"\xff\xff", true, false, []api.Cell{0xffff}},
		{"\xfe\xfe\xff", true, false, []api.Cell{0xfefe, -256}},
		{"\xff\xff\xfe", true, false, []api.Cell{0xffff, -255}},
		// A mark that stands further behind.
		{"\x00a\xfe\xff", true, false, []api.Cell{'a', 0xfeff}},
		{"\x00a\xff\xfe", true, false, []api.Cell{'a', 0xfffe}},
		{"a\xfe\xff", true, false, []api.Cell{0x61fe, -256}},
		{"\x00\xff\xfe", true, false, []api.Cell{0xff, -255}},
		{"\xfe\xff\x00a\xff\xfe", true, true, []api.Cell{'a', 0xfffe}},
		// A lone half, and a byte left over, behind a mark and without.
		{"\xfe\xff\xd8\x00", true, true, []api.Cell{-0xd9, -1}},
		{"\xfe\xff\x00\xd8", true, true, []api.Cell{0xd8}},
		{"\xff\xfe\x00\xd8", false, true, []api.Cell{-1, -0xd9}},
		{"\xff\xfe\xd8\x00", false, true, []api.Cell{0xd8}},
		{"\xff\xfe\x00\xdc\x00\xd8", false, true, []api.Cell{-1, -0xdd, -1, -0xd9}},
		{"\xd8\x00", true, false, []api.Cell{-0xd9, -1}},
		{"\xfe\xffa", true, true, []api.Cell{-0x62}},
		{"\xff\xfea", false, true, []api.Cell{-0x62}},
		{"\xfe\xff\xff", true, true, []api.Cell{-256}},
		{"\xff\xfe\xff", false, true, []api.Cell{-256}},
		{"\xfe\xff\x00a\x00", true, true, []api.Cell{'a', -1}},
		{"\xff\xfea\x00\x00", false, true, []api.Cell{'a', -1}},
		{"\xfe\xff\xd8\x3d\xde", true, true, []api.Cell{-0xd9, -0x3e, -0xdf}},
		// The mark of UTF-8 is none here.
		{"\xef\xbb\xbfa", true, false, []api.Cell{0xefbb, 0xbf61}},
	} {
		expectDecode(t, api.UTF16, []byte(c.text), api.Doc{Big: c.big, Bom: c.bom, Cells: c.want})
	}
}

func TestLatin1(t *testing.T) {
	for _, c := range []struct {
		text string
		want []api.Cell
	}{
		{"abc\r\n", []api.Cell{'a', 'b', 'c', '\r', '\n'}},
		{"\x00\x7f\x80\xff", []api.Cell{0, 0x7f, 0x80, 0xff}},
		{"é", []api.Cell{0xc3, 0xa9}},
		{"\xe9", []api.Cell{0xe9}},
		// No mark is one here.
		{"\xfe\xff\x00a", []api.Cell{0xfe, 0xff, 0, 'a'}},
		{"\xff\xfea\x00", []api.Cell{0xff, 0xfe, 'a', 0}},
		{"\xef\xbb\xbf", []api.Cell{0xef, 0xbb, 0xbf}},
	} {
		expectDecode(t, api.Latin1, []byte(c.text), api.Doc{Cells: c.want})
	}
}

func TestEveryByteOfLatin1(t *testing.T) {
	var all []byte
	var scalars []api.Cell
	for n := range 256 {
		expectDecode(t, api.Latin1, []byte{byte(n)}, api.Doc{Cells: []api.Cell{api.Cell(n)}})
		expectEncode(t, api.Doc{Enc: api.Latin1, Cells: []api.Cell{api.Cell(-1 - n)}}, []byte{byte(n)})
		all = append(all, byte(n))
		scalars = append(scalars, api.Cell(n))
	}
	expectDecode(t, api.Latin1, all, api.Doc{Cells: scalars})
	expectEncode(t, api.Doc{Enc: api.Latin1, Cells: escapes(all)}, all)
	expectEncode(t, api.Doc{Enc: api.Latin1, Cells: append(slices.Clone(scalars), escapes(all)...)}, append(all, all...))
}

// Up to ff a scalar has a byte, and no number beside the cells has one.
func TestEveryNumberAround(t *testing.T) {
	for c := api.Cell(-600); c <= 0x110200; c++ {
		l := []api.Cell{c}
		checkDoc(t, api.Doc{Enc: api.UTF8, Cells: l})
		checkDoc(t, api.Doc{Enc: api.UTF16, Cells: l})
		checkDoc(t, api.Doc{Enc: api.UTF16, Big: true, Bom: true, Cells: l})
		checkDoc(t, api.Doc{Enc: api.Latin1, Cells: l})
	}
}

func TestScalarTooGreatForLatin1(t *testing.T) {
	right := []api.Cell{'a', 0, 0xff, -1, -256}
	for _, c := range []api.Cell{0x100, 0x101, 0x161, 0x1ff, 0x20ac, 0xd7ff, 0xe000, 0xfeff, 0xffff, 0x10000, 0x10061, 0x10ffff} {
		for at := range len(right) + 1 {
			expectRefused(t, api.Doc{Enc: api.Latin1, Cells: slices.Insert(slices.Clone(right), at, c)}, api.ErrEncode)
		}
		expectRefused(t, api.Doc{Enc: api.Latin1, Cells: []api.Cell{c}}, api.ErrEncode)
		expectRefused(t, api.Doc{Enc: api.Latin1, Cells: []api.Cell{c, c}}, api.ErrEncode)
	}
	expectEncode(t, api.Doc{Enc: api.Latin1, Cells: right}, []byte("a\x00\xff\x00\xff"))
}

func TestEncode(t *testing.T) {
	l := []api.Cell{'a', 0xe9, -256, 0x1f600, -1}
	for _, c := range []struct {
		doc  api.Doc
		want string
	}{
		{api.Doc{Enc: api.UTF8, Cells: l}, "aé\xff\U0001f600\x00"},
		{api.Doc{Enc: api.UTF16, Big: true, Cells: l}, "\x00a\x00\xe9\xff\xd8\x3d\xde\x00\x00"},
		{api.Doc{Enc: api.UTF16, Cells: l}, "a\x00\xe9\x00\xff\x3d\xd8\x00\xde\x00"},
		{api.Doc{Enc: api.UTF16, Big: true, Bom: true, Cells: l}, "\xfe\xff\x00a\x00\xe9\xff\xd8\x3d\xde\x00\x00"},
		{api.Doc{Enc: api.UTF16, Bom: true, Cells: l}, "\xff\xfea\x00\xe9\x00\xff\x3d\xd8\x00\xde\x00"},
		{api.Doc{Enc: api.Latin1, Cells: l[:3]}, "a\xe9\xff"},
		// The mark is written because the document says so, whatever its cells are.
		{api.Doc{Enc: api.UTF16, Big: true, Cells: []api.Cell{0xfeff}}, "\xfe\xff"},
		{api.Doc{Enc: api.UTF16, Cells: []api.Cell{0xfeff}}, "\xff\xfe"},
		{api.Doc{Enc: api.UTF16, Cells: []api.Cell{0xfffe}}, "\xfe\xff"},
		{api.Doc{Enc: api.UTF16, Bom: true, Cells: []api.Cell{0xfeff}}, "\xff\xfe\xff\xfe"},
		{api.Doc{Enc: api.UTF16, Bom: true, Cells: []api.Cell{-255, -256}}, "\xff\xfe\xfe\xff"},
		// Escapes that together are a scalar's bytes are written like any others.
		{api.Doc{Enc: api.UTF8, Cells: []api.Cell{-0xc4, -0xaa}}, "é"},
		{api.Doc{Enc: api.UTF16, Big: true, Cells: []api.Cell{-1, -0x62}}, "\x00a"},
	} {
		expectEncode(t, c.doc, []byte(c.want))
	}
}

// No bytes and no cells: with a mark there is the mark alone.
func TestNothing(t *testing.T) {
	for _, none := range [][]byte{nil, {}} {
		expectDecode(t, api.UTF8, none, api.Doc{})
		expectDecode(t, api.UTF16, none, api.Doc{Big: true})
		expectDecode(t, api.Latin1, none, api.Doc{})
	}
	for _, none := range [][]api.Cell{nil, {}} {
		expectEncode(t, api.Doc{Enc: api.UTF8, Cells: none}, nil)
		expectEncode(t, api.Doc{Enc: api.Latin1, Cells: none}, nil)
		expectEncode(t, api.Doc{Enc: api.UTF16, Cells: none}, nil)
		expectEncode(t, api.Doc{Enc: api.UTF16, Big: true, Cells: none}, nil)
		expectEncode(t, api.Doc{Enc: api.UTF16, Bom: true, Cells: none}, []byte("\xff\xfe"))
		expectEncode(t, api.Doc{Enc: api.UTF16, Big: true, Bom: true, Cells: none}, []byte("\xfe\xff"))
	}
}

func TestNoSuchEncoding(t *testing.T) {
	for n := range 256 {
		enc := uint8(n)
		if slices.Contains(encs, enc) {
			continue
		}
		for _, s := range []string{"", "a", "\xfe\xff\x00a", "\xff\xfe", "\xff"} {
			if d, e := codec.Decode(enc, []byte(s)); !sameDoc(d, api.Doc{}) || e != api.ErrArg {
				t.Errorf("Decode(%d, %q) = %v, %d", enc, s, d, e)
			}
		}
		for _, l := range [][]api.Cell{nil, {'a'}, {-256}, {0x100}, {0xd800}} {
			for _, set := range []bool{true, false} {
				expectRefused(t, api.Doc{Enc: enc, Big: set, Cells: l}, api.ErrArg)
				expectRefused(t, api.Doc{Enc: enc, Bom: set, Cells: l}, api.ErrArg)
			}
		}
	}
}

func TestMarkOrOrderWhereThereIsNone(t *testing.T) {
	for _, enc := range []uint8{api.UTF8, api.Latin1} {
		for _, l := range [][]api.Cell{nil, {'a'}, {-256}, {0xfeff}, {0x100}, {0xd800}, {0x100, 0xd800}} {
			expectRefused(t, api.Doc{Enc: enc, Big: true, Cells: l}, api.ErrArg)
			expectRefused(t, api.Doc{Enc: enc, Bom: true, Cells: l}, api.ErrArg)
			expectRefused(t, api.Doc{Enc: enc, Big: true, Bom: true, Cells: l}, api.ErrArg)
		}
	}
}

// wrong are numbers that are no cells; the last digits of some would be a byte.
var wrong = []api.Cell{
	math.MinInt32, math.MinInt32 + 'a', -0x10ffff, -512, -258, -257,
	0xd800, 0xd861, 0xdbff, 0xdc00, 0xdfff, 0x110000, 0x110061, 0x7fffff00, 0x7fffffff,
}

// documents are all that may be encoded, of some cells.
func documents(l []api.Cell) []api.Doc {
	return []api.Doc{
		{Enc: api.UTF8, Cells: l},
		{Enc: api.UTF16, Cells: l},
		{Enc: api.UTF16, Big: true, Cells: l},
		{Enc: api.UTF16, Bom: true, Cells: l},
		{Enc: api.UTF16, Big: true, Bom: true, Cells: l},
		{Enc: api.Latin1, Cells: l},
	}
}

func TestNoCell(t *testing.T) {
	right := []api.Cell{'a', 0xe9, -256, 0, 0xff}
	for _, c := range wrong {
		rows := [][]api.Cell{{c}, {c, c}}
		for at := range len(right) + 1 {
			rows = append(rows, slices.Insert(slices.Clone(right), at, c))
		}
		for _, l := range rows {
			for _, d := range documents(l) {
				expectRefused(t, d, api.ErrCell)
			}
		}
	}
}

// What is no cell is told ahead of a scalar that is too great, whichever stands first.
func TestNoCellAndScalarTooGreat(t *testing.T) {
	for _, c := range wrong {
		for _, l := range [][]api.Cell{{0x100, c}, {c, 0x100}, {'a', 0x10ffff, -1, c}, {'a', c, -1, 0x20ac, 'b'}, {0x100, 0x100, c, 0x100}} {
			expectRefused(t, api.Doc{Enc: api.Latin1, Cells: l}, api.ErrCell)
			expectRefused(t, api.Doc{Enc: api.Latin1, Big: true, Cells: l}, api.ErrArg)
			expectRefused(t, api.Doc{Enc: api.Latin1, Bom: true, Cells: l}, api.ErrArg)
			expectRefused(t, api.Doc{Enc: 0, Cells: l}, api.ErrArg)
			expectRefused(t, api.Doc{Enc: 4, Big: true, Bom: true, Cells: l}, api.ErrArg)
		}
	}
}

// With takes all but the cells as it is, whatever stands there: it is Encode that refuses.
func TestWith(t *testing.T) {
	rows := [][]api.Cell{nil, {}, {'a'}, {'a', -256, 0x1f600}, {0xd800, -257, math.MaxInt32}}
	for _, enc := range []uint8{0, 1, 2, 3, 4, 255} {
		for _, big := range []bool{true, false} {
			for _, bom := range []bool{true, false} {
				for _, old := range rows {
					for _, l := range rows {
						d := api.Doc{Enc: enc, Big: big, Bom: bom, Cells: old}
						want := api.Doc{Enc: enc, Big: big, Bom: bom, Cells: l}
						if got := codec.With(d, l); !sameDoc(got, want) {
							t.Errorf("With(%v, %d) = %v", d, l, got)
						}
					}
				}
			}
		}
	}
}

// What was decoded is encoded in its own way, with other cells, too.
func TestWithOfDecoded(t *testing.T) {
	l := []api.Cell{'b', 0xe9}
	for _, c := range []struct {
		enc  uint8
		text string
		want string
	}{
		{api.UTF8, "a", "bé"},
		{api.UTF16, "\xfe\xff\x00a", "\xfe\xff\x00b\x00\xe9"},
		{api.UTF16, "\xff\xfea\x00", "\xff\xfeb\x00\xe9\x00"},
		{api.UTF16, "\x00a", "\x00b\x00\xe9"},
		{api.Latin1, "a", "b\xe9"},
	} {
		d, _ := codec.Decode(c.enc, []byte(c.text))
		expectEncode(t, codec.With(d, l), []byte(c.want))
	}
}

func TestNamed(t *testing.T) {
	for s, want := range map[string]uint8{"utf-8": api.UTF8, "utf-16": api.UTF16, "latin1": api.Latin1} {
		if got := codec.Named(s); got != want {
			t.Errorf("Named(%q) = %d", s, got)
		}
	}
	near := []string{
		"", " ", "-", "1", "2", "3", "8", "16", "u", "utf", "utf-", "utf-1", "utf-32", "utf-7", "latin", "latin-", "latin2", "latin9",
		"utf8", "utf16", "utf_8", "utf_16", "utf 8", "utf--8", "utf\u20108", "utf\u201016", "latin-1", "latin_1", "latin 1", "latinl", "iso-8859-1",
		"UTF-8", "Utf-8", "utF-8", "UTF-16", "Utf-16", "UTF8", "Latin1", "LATIN1", "latin1\n", "utf-8\x00", "\ufeffutf-8",
		"utf-08", "utf-016", "latin01", "utf-88", "utf-160", "utf-166", "latin11", "utf-16le", "utf-16be", "utf-8,utf-16",
	}
	for _, s := range []string{"utf-8", "utf-16", "latin1"} {
		near = append(near, " "+s, s+" ", s+s, "x"+s, s+"x", s+"\n", "\t"+s, s[1:], s[:len(s)-1])
	}
	for _, s := range near {
		if got := codec.Named(s); got != 0 {
			t.Errorf("Named(%q) = %d", s, got)
		}
	}
}

// All texts of up to 6 bytes that stand at the edges of marks, halves and sequences come back, in each encoding.
func TestThereAndBack(t *testing.T) {
	const some = "\x00a\xa9\xc3\xd8\xdc\xfe\xff"
	var grow func(s string)
	grow = func(s string) {
		checkBytes(t, []byte(s))
		for i := 0; i < len(some) && len(s) < 6; i++ {
			grow(s + some[i:i+1])
		}
	}
	grow("")
}

func TestEveryTwoBytes(t *testing.T) {
	for n := range 0x10000 {
		two := []byte{byte(n >> 8), byte(n)}
		checkBytes(t, two)
		checkBytes(t, append(two, 'a'))
	}
}

func TestRowsOfCells(t *testing.T) {
	some := []api.Cell{-257, -256, -255, -0xd9, -1, 0, 'a', 0xff, 0x100, 0xd7ff, 0xd800, 0xfeff, 0x10ffff, 0x110000}
	var grow func(l []api.Cell)
	grow = func(l []api.Cell) {
		checkCells(t, l)
		for i := 0; i < len(some) && len(l) < 3; i++ {
			grow(append(slices.Clone(l), some[i]))
		}
	}
	grow(nil)
}
