package codec_test

import (
	"bytes"
	"go/parser"
	"go/token"
	"os"
	"slices"
	"strconv"
	"strings"
	"testing"

	"redactor/api"
	"redactor/cell"
	"redactor/codec"
	"redactor/utf16"
	"redactor/utf8"
)

// What the calls are, as the chapter lists them: another signature would not compile.
var (
	_ func(uint8, []byte) (api.Doc, api.Errno) = codec.Decode
	_ func(api.Doc) ([]byte, api.Errno)        = codec.Encode
	_ func(api.Doc, []api.Cell) api.Doc        = codec.With
	_ func(string) uint8                       = codec.Named
)

// R1: with an error there are no bytes, however many cells stand ahead of the wrong one.
func TestErrorHasNoBytes(t *testing.T) {
	for n := range 40 {
		ahead := slices.Repeat([]api.Cell{'a'}, n)
		for _, d := range documents(append(slices.Clone(ahead), 0xd800)) {
			expectRefused(t, d, api.ErrCell)
		}
		expectRefused(t, api.Doc{Enc: api.Latin1, Cells: append(slices.Clone(ahead), 0x100)}, api.ErrEncode)
		expectRefused(t, api.Doc{Enc: api.Latin1, Bom: true, Cells: ahead}, api.ErrArg)
	}
}

// R2: what is handed in stays as it is, up to its memory's end.
func TestHandedInStays(t *testing.T) {
	text := []byte("\xff\xfea\x00\xc3\xa9\xfe\xff\xd8\x3d\xde\x00\xdc")
	textBefore := slices.Clone(text)
	cells := []api.Cell{'a', -0xd9, -1, 0xff, 0x1f600, 0xd800, 'b', 'c'}
	before := slices.Clone(cells)
	for n := range len(text) + 1 {
		for _, enc := range encs {
			codec.Decode(enc, text[:n])
		}
	}
	for n := range len(cells) + 1 {
		for _, d := range documents(cells[:n]) {
			codec.Encode(d)
			codec.With(d, cells[:len(cells)-n])
		}
	}
	if !bytes.Equal(text, textBefore) {
		t.Errorf("now %x, before %x", text, textBefore)
	}
	if !slices.Equal(cells, before) {
		t.Errorf("now %d, before %d", cells, before)
	}
}

// R2: what was handed in may be written over later.
func TestHandedInIsNotKept(t *testing.T) {
	for _, enc := range encs {
		for _, s := range []string{"abc", "\xfe\xff\x00a\xff", "\xff\xfea\x00\xff"} {
			text := []byte(s)
			d, _ := codec.Decode(enc, text)
			clear(text)
			want, _ := decoded(enc, []byte(s))
			if !sameDoc(d, want) {
				t.Errorf("Decode keeps its bytes: %v, want %v", d, want)
			}
			b, _ := codec.Encode(d)
			with := codec.With(api.Doc{Enc: enc}, d.Cells)
			clear(d.Cells)
			if string(b) != s || !slices.Equal(with.Cells, want.Cells) {
				t.Errorf("cells are kept: %x, %v", b, with)
			}
		}
	}
}

// R2: what comes out is new memory, whoever writes to it or lays more behind it.
func TestComesOutNew(t *testing.T) {
	for _, enc := range encs {
		text := []byte("\xff\xfea\x00b\x00")
		want, _ := decoded(enc, text)
		d, _ := codec.Decode(enc, text)
		other, _ := codec.Decode(enc, text)
		clear(d.Cells)
		d.Cells = append(d.Cells, 'y')
		if again, _ := codec.Decode(enc, text); !sameDoc(other, want) || !sameDoc(again, want) || string(text) != "\xff\xfea\x00b\x00" {
			t.Errorf("%v, %v share memory", d, other)
		}
		b, _ := codec.Encode(other)
		c, _ := codec.Encode(other)
		clear(b)
		b = append(b, 'y')
		if again, _ := codec.Encode(other); !bytes.Equal(c, text) || !bytes.Equal(again, text) || !sameDoc(other, want) {
			t.Errorf("%x, %x, %x share memory", b, c, again)
		}
	}
}

// R2: a mark that was written over in one answer is whole in the next one.
func TestMarkIsNew(t *testing.T) {
	for _, big := range []bool{true, false} {
		d := api.Doc{Enc: api.UTF16, Big: big, Bom: true}
		want := units(0xfeff, big)
		b, _ := codec.Encode(d)
		clear(b)
		expectEncode(t, d, want)
		other, _ := codec.Encode(d)
		one, two := append(other, 'a'), other
		if expectEncode(t, d, want); string(two) != string(want) || len(one) != 3 {
			t.Errorf("%x, %x", one, two)
		}
	}
}

// R2: the cells of With are its own, though the document's and the list's are the same ones.
func TestWithIsNew(t *testing.T) {
	memory := []api.Cell{'a', 'b', 'c'}
	d := api.Doc{Enc: api.UTF8, Cells: memory[:2]}
	with, other := codec.With(d, d.Cells), codec.With(d, d.Cells)
	with.Cells[0] = 'x'
	with.Cells = append(with.Cells, 'y')
	if !slices.Equal(memory, []api.Cell{'a', 'b', 'c'}) || !slices.Equal(other.Cells, []api.Cell{'a', 'b'}) {
		t.Errorf("%d, %v, %v share memory", memory, with, other)
	}
	memory[0] = 'z'
	if !slices.Equal(other.Cells, []api.Cell{'a', 'b'}) || !slices.Equal(with.Cells, []api.Cell{'x', 'b', 'y'}) {
		t.Errorf("With keeps its cells: %v, %v", with, other)
	}
	if none := codec.With(d, memory[:0]); len(none.Cells) != 0 || cap(none.Cells) != 0 {
		t.Errorf("With of no cells has %d", none.Cells[:cap(none.Cells)])
	}
}

// R2: what lies behind a list's length is not of it: neither a mark nor a scalar may be made whole by it.
func TestBehindTheLength(t *testing.T) {
	for _, s := range []string{"\xfe\xff\x00a", "\xff\xfea\x00", "\xef\xbb\xbf\xc3\xa9", "\xfe\xff\xd8\x3d\xde\x00"} {
		whole := []byte(s)
		for n := range len(whole) {
			checkBytes(t, whole[:n])
			for _, enc := range encs {
				d, _ := codec.Decode(enc, whole[:n])
				expectNoughtsBehind(t, d.Cells)
			}
		}
	}
	cells := []api.Cell{'a', 0xff, 0x100, 0xd800}
	expectEncode(t, api.Doc{Enc: api.Latin1, Cells: cells[:2]}, []byte("a\xff"))
	expectRefused(t, api.Doc{Enc: api.Latin1, Cells: cells[:3]}, api.ErrEncode)
	expectRefused(t, api.Doc{Enc: api.Latin1, Cells: cells}, api.ErrCell)
	for n := range len(cells) {
		for _, d := range documents(cells[:n]) {
			checkDoc(t, d)
			expectNoughtsBehind(t, codec.With(d, cells[:n]).Cells)
		}
	}
}

func expectNoughtsBehind(t *testing.T, l []api.Cell) {
	t.Helper()
	for _, c := range l[len(l):cap(l)] {
		if c != 0 {
			t.Errorf("%d is handed out behind %d", c, l)
		}
	}
}

// R4: a call knows nothing of those ahead of it: neither an error, nor an encoding, nor a mark is carried on.
func TestCallsKeepNothing(t *testing.T) {
	ask := func() string {
		d, e := codec.Decode(api.UTF16, []byte("\x00a\xd8"))
		b, f := codec.Encode(d)
		other, _ := codec.Decode(api.Latin1, b)
		return strconv.FormatBool(d.Big) + strconv.FormatBool(d.Bom) + cell.Text(d.Cells) + " " + strconv.Itoa(int(e+f)) + " " + cell.Text(other.Cells)
	}
	first := ask()
	codec.Decode(api.UTF16, []byte("\xff\xfe"))
	codec.Decode(0, []byte("a"))
	codec.Encode(api.Doc{Enc: api.UTF16, Bom: true, Cells: []api.Cell{-256}})
	codec.Encode(api.Doc{Enc: api.Latin1, Cells: []api.Cell{0x100}})
	codec.With(api.Doc{Enc: api.UTF16, Bom: true}, []api.Cell{'x'})
	codec.Named("utf-8")
	if again := ask(); again != first || first != `truefalsea\xd8 0 \u{0}a\u{d8}` {
		t.Errorf("first %s, then %s", first, again)
	}
}

// R5, and on what the layer stands: what it imports can neither print, nor wait, nor ask a clock.
func TestStandsOnLayersBelow(t *testing.T) {
	may := []string{"redactor/api", "redactor/cell", "redactor/utf8", "redactor/utf16", "bytes", "slices"}
	files, err := os.ReadDir(".")
	if err != nil {
		t.Fatal(err)
	}
	for _, f := range files {
		if !strings.HasSuffix(f.Name(), ".go") || strings.HasSuffix(f.Name(), "_test.go") {
			continue
		}
		tree, err := parser.ParseFile(token.NewFileSet(), f.Name(), nil, parser.ImportsOnly)
		if err != nil {
			t.Fatal(err)
		}
		for _, i := range tree.Imports {
			if path, _ := strconv.Unquote(i.Path.Value); !slices.Contains(may, path) {
				t.Errorf("%s imports %s", f.Name(), path)
			}
		}
	}
}

// R6: no list and an empty one are the same thing, wherever the empty one lies.
func TestNilIsEmpty(t *testing.T) {
	text := []byte("\xff\xfea\x00")
	for _, b := range [][]byte{nil, {}, text[:0], text[2:2], text[4:]} {
		checkBytes(t, b)
	}
	cells := []api.Cell{0xd800, 'a'}
	for _, l := range [][]api.Cell{nil, {}, cells[:0], cells[1:1], cells[2:]} {
		checkCells(t, l)
		for _, d := range documents(l) {
			if with := codec.With(api.Doc{Enc: d.Enc, Big: d.Big, Bom: d.Bom, Cells: cells}, l); !sameDoc(with, d) {
				t.Errorf("With(%d) = %v, want %v", l, with, d)
			}
		}
	}
}

// R7: neither an order nor a mark is told of an encoding that has none.
func TestOtherFieldsAreNoughts(t *testing.T) {
	for _, enc := range []uint8{api.UTF8, api.Latin1} {
		for _, s := range []string{"", "a", "\xfe\xff", "\xff\xfe", "\xfe\xff\x00a", "\xff\xfea\x00", "\xef\xbb\xbfa"} {
			if d, _ := codec.Decode(enc, []byte(s)); d.Big || d.Bom || d.Enc != enc {
				t.Errorf("Decode(%d, %q) = %v", enc, s, d)
			}
		}
	}
}

// T2: whatever bytes there are, they come back, and so does each beginning of them.
func TestBytesComeBack(t *testing.T) {
	text := []byte("\xfe\xff\x00a\x00\r\x00\n\xff\xfe\xd8\x3d\xde\x00\xdc\x00\xef\xbb\xbf\xc3\xa9\xc3\xd8\x00\x00\n\xed\xa0\x80\xf4\x90\x80\x80\xff\xd8\xd8")
	for from := range len(text) {
		for to := from; to <= len(text); to++ {
			checkBytes(t, text[from:to])
		}
	}
}

// UTF8 and UTF16 are those of the layers below, cell by cell.
func TestCellsAreThoseOfTheLayersBelow(t *testing.T) {
	for _, s := range []string{"", "abc", "\xfe\xff\x00a", "\xff\xfea\x00", "é\xff\xc3", "\xd8\x3d\xde\x00\xd8", "\xef\xbb\xbf"} {
		text := []byte(s)
		d, _ := codec.Decode(api.UTF8, text)
		if want := utf8.Decode(text); !slices.Equal(d.Cells, want) {
			t.Errorf("UTF8 of %x: %d, want %d", s, d.Cells, want)
		}
		for _, big := range []bool{true, false} {
			d, _ = codec.Decode(api.UTF16, append(units(0xfeff, big), text...))
			if want := utf16.Decode(text, big); !slices.Equal(d.Cells, want) || !d.Bom || d.Big != big {
				t.Errorf("UTF16 of %x: %v, want %d", s, d, want)
			}
		}
	}
}

// T4: the same characters are the same cells, in whatever encoding, and are encoded in each.
func TestCharactersAreTheSame(t *testing.T) {
	for _, s := range []string{"", "a", "abc\r\n", "é\u0000\u00ff", "€\ud7ff\ue000\ufffd\uffff", "x\U00010000\U0001f600y\U0010ffff"} {
		want := cell.Of(s)
		for _, d := range documents(want) {
			b, e := codec.Encode(d)
			if d.Enc == api.Latin1 && len(want) > 0 && slices.Max(want) > 0xff {
				expectRefused(t, d, api.ErrEncode)
				continue
			}
			if d.Enc == api.UTF16 && !d.Big && !d.Bom {
				continue // Its bytes do not tell their order: Decode takes the other one.
			}
			if back, _ := codec.Decode(d.Enc, b); e != api.OK || !slices.Equal(back.Cells, want) {
				t.Errorf("%q: %v comes back as %v, %d", s, d, back, e)
			}
		}
	}
}

// T5: each call ends with an answer, whatever it is asked: many bytes and many cells, too.
func TestAnyInput(t *testing.T) {
	for _, s := range []string{"\x00", "a", "\xd8", "\xff", "\xfe\xff", "\xff\xfe", "\xff\xfe\x00\xd8", "\xef\xbb\xbf", "\xd8\x3d\xde"} {
		checkBytes(t, bytes.Repeat([]byte(s), 1001))
	}
	for _, l := range [][]api.Cell{{0xff}, {-256}, {0x10ffff}, {0xd800}, {'a', -1, 0xfeff}} {
		checkCells(t, slices.Repeat(l, 1001))
	}
	many := slices.Repeat([]api.Cell{0xff}, 100000)
	if b, e := codec.Encode(api.Doc{Enc: api.Latin1, Cells: many}); len(b) != 100000 || e != api.OK {
		t.Errorf("Encode of many has %d bytes, %d", len(b), e)
	}
	if with := codec.With(api.Doc{}, many); len(with.Cells) != 100000 {
		t.Errorf("With of many has %d cells", len(with.Cells))
	}
	if n := codec.Named(strings.Repeat("utf-8", 100000)); n != 0 {
		t.Errorf("Named of a long name is %d", n)
	}
}

func FuzzDecode(f *testing.F) {
	for _, s := range []string{"", "\xfe\xff\x00a", "\xff\xfea\x00\x00", "\xff", "\xef\xbb\xbfé\xc3", "\xd8\x3d\xde\x00\xdc"} {
		f.Add(uint8(2), []byte(s))
	}
	f.Fuzz(func(t *testing.T, enc uint8, b []byte) {
		checkBytes(t, b)
		d, e := codec.Decode(enc, b)
		if want, wantE := decoded(enc, b); !sameDoc(d, want) || e != wantE {
			t.Fatalf("Decode(%d, %x) = %v, %d", enc, b, d, e)
		}
	})
}

// FuzzEncode makes cells of four bytes each, with those that are none among them.
func FuzzEncode(f *testing.F) {
	for _, s := range []string{"", "\xff\xff\xff\x27\xff\xff\xff\xff", "\x00\x00\xd8\x00", "\x00\x00\x00\xe9\x00\x01\xf6\x00", "\x00\x00\x01\x00\x00\x11\x00\x00"} {
		f.Add(uint8(3), []byte(s))
	}
	f.Fuzz(func(t *testing.T, enc uint8, b []byte) {
		var l []api.Cell
		for ; len(b) >= 4; b = b[4:] {
			l = append(l, api.Cell(int32(b[0])<<24|int32(b[1])<<16|int32(b[2])<<8|int32(b[3])))
		}
		checkCells(t, l)
		checkDoc(t, api.Doc{Enc: enc, Cells: l})
	})
}
