package utf16_test

import (
	"bytes"
	"encoding/binary"
	"math"
	"slices"
	"testing"
	library "unicode/utf16"

	"redactor/api"
	"redactor/utf16"
)

// orders are both of them: the greater byte first, and last.
var orders = []bool{true, false}

func isScalar(c api.Cell) bool {
	return c >= 0 && c <= 0x10ffff && (c < 0xd800 || c > 0xdfff)
}

func isEscape(c api.Cell) bool { return c >= -256 && c <= -1 }

// units are bytes of numbers, one unit each.
func units(big bool, numbers ...int) []byte {
	var b []byte
	for _, n := range numbers {
		if big {
			b = append(b, byte(n/256), byte(n%256))
		} else {
			b = append(b, byte(n%256), byte(n/256))
		}
	}
	return b
}

// numbersOf are a scalar's units, worked out as the chapter says, without a library's help.
func numbersOf(c api.Cell) []int {
	if c < 0x10000 {
		return []int{int(c)}
	}
	less := int(c) - 0x10000
	return []int{0xd800 + less/1024, 0xdc00 + less%1024}
}

func escapes(b []byte) []api.Cell {
	var l []api.Cell
	for _, n := range b {
		l = append(l, -1-api.Cell(n))
	}
	return l
}

// scalarAt is the scalar whose units stand at the beginning, and how many bytes these have; 0: there is none.
func scalarAt(b []byte, big bool) (api.Cell, int) {
	var bytesOrder binary.ByteOrder = binary.LittleEndian
	if big {
		bytesOrder = binary.BigEndian
	}
	if len(b) >= 2 {
		if r := rune(bytesOrder.Uint16(b)); !library.IsSurrogate(r) {
			return api.Cell(r), 2
		}
	}
	if len(b) >= 4 {
		if r := library.DecodeRune(rune(bytesOrder.Uint16(b)), rune(bytesOrder.Uint16(b[2:]))); r != 0xfffd {
			return api.Cell(r), 4
		}
	}
	return 0, 0
}

// decoded is what Decode must answer, told without it.
func decoded(b []byte, big bool) []api.Cell {
	var l []api.Cell
	for len(b) > 0 {
		c, n := scalarAt(b, big)
		if n > 0 {
			l = append(l, c)
		} else {
			n = min(2, len(b))
			l = append(l, escapes(b[:n])...)
		}
		b = b[n:]
	}
	return l
}

// encoded is what Encode must answer, told without it.
func encoded(l []api.Cell, big bool) ([]byte, api.Errno) {
	var b []byte
	for _, c := range l {
		switch {
		case isEscape(c):
			b = append(b, byte(-1-c))
		case isScalar(c):
			b = append(b, units(big, numbersOf(c)...)...)
		default:
			return nil, api.ErrCell
		}
	}
	return b, api.OK
}

// canonical is what Canonical must answer, told without it.
func canonical(l []api.Cell) bool {
	for _, big := range orders {
		if b, e := encoded(l, big); e != api.OK || !slices.Equal(decoded(b, big), l) {
			return false
		}
	}
	return true
}

// edges are the scalars beside the halves, those beside the first of two units, and those of each end of both halves, with their bytes.
var edges = []struct {
	c      api.Cell
	big    string
	little string
}{
	{0, "\x00\x00", "\x00\x00"},
	{'a', "\x00a", "a\x00"},
	{0x7f, "\x00\x7f", "\x7f\x00"},
	{0xff, "\x00\xff", "\xff\x00"},
	{0x100, "\x01\x00", "\x00\x01"},
	{0x20ac, "\x20\xac", "\xac\x20"},
	{0xd7ff, "\xd7\xff", "\xff\xd7"},
	{0xe000, "\xe0\x00", "\x00\xe0"},
	{0xfeff, "\xfe\xff", "\xff\xfe"},
	{0xfffd, "\xff\xfd", "\xfd\xff"},
	{0xfffe, "\xff\xfe", "\xfe\xff"},
	{0xffff, "\xff\xff", "\xff\xff"},
	{0x10000, "\xd8\x00\xdc\x00", "\x00\xd8\x00\xdc"},
	{0x10001, "\xd8\x00\xdc\x01", "\x00\xd8\x01\xdc"},
	{0x103ff, "\xd8\x00\xdf\xff", "\x00\xd8\xff\xdf"},
	{0x10400, "\xd8\x01\xdc\x00", "\x01\xd8\x00\xdc"},
	{0x1f600, "\xd8\x3d\xde\x00", "\x3d\xd8\x00\xde"},
	{0x20000, "\xd8\x40\xdc\x00", "\x40\xd8\x00\xdc"},
	{0x10fbff, "\xdb\xfe\xdf\xff", "\xfe\xdb\xff\xdf"},
	{0x10fc00, "\xdb\xff\xdc\x00", "\xff\xdb\x00\xdc"},
	{0x10ffff, "\xdb\xff\xdf\xff", "\xff\xdb\xff\xdf"},
}

func edgeBytes(at int, big bool) []byte {
	if big {
		return []byte(edges[at].big)
	}
	return []byte(edges[at].little)
}

func expectDecode(t *testing.T, b []byte, big bool, want []api.Cell) {
	t.Helper()
	if got := utf16.Decode(b, big); !slices.Equal(got, want) {
		t.Errorf("Decode(%x, %v) = %d, want %d", b, big, got, want)
	}
}

func expectEncode(t *testing.T, l []api.Cell, big bool, want []byte) {
	t.Helper()
	if got, e := utf16.Encode(l, big); !bytes.Equal(got, want) || e != api.OK {
		t.Errorf("Encode(%d, %v) = %x, %d, want %x", l, big, got, e, want)
	}
}

func expectCanonical(t *testing.T, l []api.Cell, want bool) {
	t.Helper()
	if got := utf16.Canonical(l); got != want {
		t.Errorf("Canonical(%d) = %v", l, got)
	}
}

func TestExamples(t *testing.T) {
	expectDecode(t, []byte{0xd8, 0x3d, 0xde, 0x00, 0x61}, true, []api.Cell{0x1f600, -0x62})
	expectDecode(t, []byte{0xd8, 0x00, 0x00, 0x41}, true, []api.Cell{-0xd9, -1, 0x41})
}

func TestDecode(t *testing.T) {
	for _, c := range []struct {
		text string
		big  bool
		want []api.Cell
	}{
		{"\x00a\x00b\x00c", true, []api.Cell{'a', 'b', 'c'}},
		{"a\x00b\x00c\x00", false, []api.Cell{'a', 'b', 'c'}},
		{"a\x00b\x00c\x00", true, []api.Cell{0x6100, 0x6200, 0x6300}},
		{"\x00a\x00\r\x00\n\x20\xac", true, []api.Cell{'a', '\r', '\n', 0x20ac}},
		{"a\x00\r\x00\n\x00\xac\x20", false, []api.Cell{'a', '\r', '\n', 0x20ac}},
		{"\x3d\xd8\x00\xde\x61", false, []api.Cell{0x1f600, -0x62}},
		{"\x00\xd8\x41\x00", false, []api.Cell{-1, -0xd9, 0x41}},
		{"\x00x\xd8\x3d\xde\x00\x00y", true, []api.Cell{'x', 0x1f600, 'y'}},
		{"\xd8\x3d\xde\x00\xd8\x3d\xde\x01", true, []api.Cell{0x1f600, 0x1f601}},
		{"\xfe\xff\x00a", true, []api.Cell{0xfeff, 'a'}},
		{"\xff\xfea\x00", false, []api.Cell{0xfeff, 'a'}},
		{"\xfe\xff\x00a", false, []api.Cell{0xfffe, 0x6100}},
		{"\xff\xfd", true, []api.Cell{0xfffd}},
		// The same bytes are a lone half in one order, and a scalar in the other one.
		{"\xd8\x00", true, []api.Cell{-0xd9, -1}},
		{"\xd8\x00", false, []api.Cell{0xd8}},
		{"\xd8\xd8", true, []api.Cell{-0xd9, -0xd9}},
		{"\xd8\xd8", false, []api.Cell{-0xd9, -0xd9}},
		// A pair in both orders, but not the same one.
		{"\xd8\xdc\xdc\xd8", true, []api.Cell{0x470d8}},
		{"\xdc\xd8\xd8\xdc", false, []api.Cell{0x470d8}},
		{"\xd8\xd9\xdc\xdd", true, []api.Cell{0x464dd}},
		{"\xd8\xd9\xdc\xdd", false, []api.Cell{0x861dc}},
	} {
		expectDecode(t, []byte(c.text), c.big, c.want)
	}
}

func TestEdges(t *testing.T) {
	for at, edge := range edges {
		l := []api.Cell{edge.c}
		for _, big := range orders {
			expectDecode(t, edgeBytes(at, big), big, l)
			expectEncode(t, l, big, edgeBytes(at, big))
		}
		expectCanonical(t, l, true)
	}
}

func TestEdgesOneBehindTheOther(t *testing.T) {
	for a := range edges {
		for b := range edges {
			l := []api.Cell{edges[a].c, edges[b].c}
			for _, big := range orders {
				text := append(edgeBytes(a, big), edgeBytes(b, big)...)
				expectDecode(t, text, big, l)
				expectEncode(t, l, big, text)
			}
			expectCanonical(t, l, true)
		}
	}
}

// The ends of each half of a pair, and a number within it.
var (
	upperHalves = []int{0xd800, 0xd801, 0xd83d, 0xdbfe, 0xdbff}
	lowerHalves = []int{0xdc00, 0xdc01, 0xde00, 0xdffe, 0xdfff}
	noHalves    = []int{0, 'a', 0xd7, 0xdc, 0xd7ff, 0xe000, 0xfffd, 0xffff}
)

func TestPairs(t *testing.T) {
	for _, upper := range upperHalves {
		for _, lower := range lowerHalves {
			want := []api.Cell{api.Cell(0x10000 + (upper-0xd800)*1024 + lower - 0xdc00)}
			for _, big := range orders {
				expectDecode(t, units(big, upper, lower), big, want)
			}
		}
	}
}

// A half is alone at the end, ahead of what is no half, and ahead of a half of its own kind: its two bytes' escapes stand as the bytes do.
func TestLoneHalves(t *testing.T) {
	for _, kind := range [][]int{upperHalves, lowerHalves} {
		for _, half := range kind {
			for _, big := range orders {
				lone := escapes(units(big, half))
				expectDecode(t, units(big, half), big, lone)
				expectDecode(t, units(big, 'x', half), big, append([]api.Cell{'x'}, lone...))
				for _, next := range noHalves {
					expectDecode(t, units(big, half, next), big, append(slices.Clone(lone), api.Cell(next)))
				}
				for _, next := range kind {
					expectDecode(t, units(big, half, next), big, escapes(units(big, half, next)))
				}
			}
		}
	}
}

// The lower half first is no pair; the upper one behind it may begin one.
func TestOtherHalfFirst(t *testing.T) {
	for _, lower := range lowerHalves {
		for _, upper := range upperHalves {
			for _, big := range orders {
				both := units(big, lower, upper)
				expectDecode(t, both, big, escapes(both))
				expectDecode(t, append(both, units(big, 'a')...), big, append(escapes(both), 'a'))
				want := append(escapes(units(big, lower)), 0x1f600)
				expectDecode(t, units(big, lower, 0xd83d, 0xde00), big, want)
				want = append(escapes(units(big, upper)), 0x1f600)
				expectDecode(t, units(big, upper, 0xd83d, 0xde00), big, want)
				want = append([]api.Cell{0x1f600}, escapes(units(big, lower))...)
				expectDecode(t, units(big, 0xd83d, 0xde00, lower), big, want)
			}
		}
	}
}

// Nothing of a pair that is cut off is of a scalar, wherever it is cut.
func TestCutOff(t *testing.T) {
	for at, edge := range edges {
		if edge.c < 0x10000 {
			continue
		}
		for _, big := range orders {
			pair := edgeBytes(at, big)
			for n := 1; n < 4; n++ {
				expectDecode(t, pair[:n], big, escapes(pair[:n]))
				text := append(units(big, 'x', 0xffff), pair[:n]...)
				expectDecode(t, text, big, append([]api.Cell{'x', 0xffff}, escapes(pair[:n])...))
			}
			expectDecode(t, pair[2:], big, escapes(pair[2:]))
			expectDecode(t, pair[3:], big, escapes(pair[3:]))
		}
	}
}

// Behind whole units, and behind a half, the byte that is left over is an escape, whichever it is.
func TestByteLeftOver(t *testing.T) {
	for n := range 256 {
		over, escape := byte(n), api.Cell(-1-n)
		for _, big := range orders {
			expectDecode(t, []byte{over}, big, []api.Cell{escape})
			expectDecode(t, append(units(big, 'a'), over), big, []api.Cell{'a', escape})
			expectDecode(t, append(units(big, 0xd83d, 0xde00), over), big, []api.Cell{0x1f600, escape})
			for _, half := range []int{0xd800, 0xdbff, 0xdc00, 0xdfff} {
				text := append(units(big, half), over)
				expectDecode(t, text, big, escapes(text))
			}
		}
	}
}

func TestNothing(t *testing.T) {
	for _, big := range orders {
		for _, b := range [][]byte{nil, {}} {
			expectDecode(t, b, big, nil)
		}
		for _, l := range [][]api.Cell{nil, {}} {
			expectEncode(t, l, big, nil)
			expectCanonical(t, l, true)
		}
	}
}

func TestEveryScalar(t *testing.T) {
	for c := api.Cell(0); c <= 0x10ffff; c++ {
		if !isScalar(c) {
			continue
		}
		l := []api.Cell{c}
		for _, big := range orders {
			b, e := utf16.Encode(l, big)
			if !bytes.Equal(b, units(big, numbersOf(c)...)) || e != api.OK || !slices.Equal(utf16.Decode(b, big), l) {
				t.Fatalf("Encode(%x, %v) = %x, %d", c, big, b, e)
			}
		}
		if !utf16.Canonical(l) {
			t.Fatalf("Canonical(%x) is false", c)
		}
	}
}

// A byte by itself is no unit: each lone escape is what its byte is decoded to.
func TestEveryEscape(t *testing.T) {
	for n := range 256 {
		l := []api.Cell{api.Cell(-1 - n)}
		for _, big := range orders {
			expectEncode(t, l, big, []byte{byte(n)})
		}
		expectCanonical(t, l, true)
	}
}

func TestEncode(t *testing.T) {
	for _, c := range []struct {
		cells  []api.Cell
		big    string
		little string
	}{
		{[]api.Cell{'a', 0xe9, 0x20ac}, "\x00a\x00\xe9\x20\xac", "a\x00\xe9\x00\xac\x20"},
		{[]api.Cell{0x1f600}, "\xd8\x3d\xde\x00", "\x3d\xd8\x00\xde"},
		{[]api.Cell{0x1f600, -0x62}, "\xd8\x3d\xde\x00a", "\x3d\xd8\x00\xdea"},
		{[]api.Cell{-0xd9, -1, 0x41}, "\xd8\x00\x00\x41", "\xd8\x00\x41\x00"},
		{[]api.Cell{-1, -256}, "\x00\xff", "\x00\xff"},
		{[]api.Cell{0xff, -256, 0x10ffff, -1}, "\x00\xff\xff\xdb\xff\xdf\xff\x00", "\xff\x00\xff\xff\xdb\xff\xdf\x00"},
		{[]api.Cell{-0xd9, -1, -0xdd, -1}, "\xd8\x00\xdc\x00", "\xd8\x00\xdc\x00"},
		{[]api.Cell{-1 - 'a', 'b', -1 - 'c'}, "a\x00bc", "ab\x00c"},
	} {
		expectEncode(t, c.cells, true, []byte(c.big))
		expectEncode(t, c.cells, false, []byte(c.little))
	}
}

// wrong are numbers that are no cells; those of halves would be units by themselves.
var wrong = []api.Cell{
	math.MinInt32, math.MinInt32 + 1, -0x10ffff, -0x10000, -512, -258, -257,
	0xd800, 0xd801, 0xdbff, 0xdc00, 0xdffe, 0xdfff, 0x110000, 0x110001, 0x1fffff, 0x7fffffff,
}

func expectNoCell(t *testing.T, l []api.Cell) {
	t.Helper()
	for _, big := range orders {
		if got, e := utf16.Encode(l, big); len(got) != 0 || e != api.ErrCell {
			t.Errorf("Encode(%d, %v) = %x, %d", l, big, got, e)
		}
	}
	expectCanonical(t, l, false)
}

func TestNoCell(t *testing.T) {
	right := []api.Cell{'a', 0xe9, -256, 0xfffd, 0x10ffff}
	for _, c := range wrong {
		for at := range len(right) + 1 {
			expectNoCell(t, slices.Insert(slices.Clone(right), at, c))
		}
		expectNoCell(t, []api.Cell{c})
		expectNoCell(t, []api.Cell{c, c})
	}
	// Two halves are no scalar, though their units together would be one's.
	expectNoCell(t, []api.Cell{0xd83d, 0xde00})
}

// All cells are encoded, and no number beside them is.
func TestEveryNumberAround(t *testing.T) {
	for c := api.Cell(-600); c <= 0x110200; c++ {
		checkCells(t, []api.Cell{c})
		if is := utf16.Canonical([]api.Cell{c}); is != (isScalar(c) || isEscape(c)) {
			t.Fatalf("Canonical(%d) = %v", c, is)
		}
	}
}

func TestCanonical(t *testing.T) {
	for _, c := range []struct {
		cells []api.Cell
		want  bool
	}{
		{[]api.Cell{'a', 0xe9, 0xffff, 0x10000, 0x10ffff}, true},
		{[]api.Cell{'a', -1 - 'b'}, true},
		{[]api.Cell{0x1f600, -0xd9}, true},
		// Escapes that together are a unit of a scalar, in both orders.
		{escapes([]byte("\x00a")), false},
		{escapes([]byte("a\x00")), false},
		{escapes([]byte("\x00\x00")), false},
		{append([]api.Cell{'x'}, escapes([]byte("ab"))...), false},
		{append(escapes([]byte("ab")), 'x'), false},
		// Both of their orders are a lone half.
		{escapes([]byte("\xd8\xd8")), true},
		{escapes([]byte("\xd8\xdf")), true},
		{escapes([]byte("\xdf\xd8")), true},
		{escapes([]byte("\xd8\xd8a")), true},
		{append(escapes([]byte("\xd8\xd8")), 'a', 0x1f600), true},
		{append([]api.Cell{'a', 0x1f600}, escapes([]byte("\xdc\xdc"))...), true},
		{escapes([]byte("\xd8\xd8\xd8\xd8")), true},
		{escapes([]byte("\xdc\xdc\xd8\xd8")), true},
		// A pair, in both orders; in one of them alone.
		{escapes([]byte("\xd8\xd8\xdc\xdc")), false},
		{escapes([]byte("\xd8\xdc\xdc\xd8")), false},
		{escapes([]byte("\xdc\xd8\xd8\xdc")), false},
		// An escape at an odd place moves what stands behind it.
		{[]api.Cell{-1 - 'a', 'b'}, false},
		{[]api.Cell{-0xd9, 'a'}, false},
		{[]api.Cell{-256, 0x10ffff}, false},
		{[]api.Cell{'a', -0xd9, 'b'}, false},
		{[]api.Cell{-1 - 'a', 'b', -1 - 'c'}, false},
		{[]api.Cell{-0xd9, 0xd8d8, -0xd9}, false},
	} {
		expectCanonical(t, c.cells, c.want)
	}
}

// The escapes of all bytes of a scalar's units are not what these are decoded to.
func TestCanonicalOfEscapedUnits(t *testing.T) {
	for at := range edges {
		for _, big := range orders {
			l := escapes(edgeBytes(at, big))
			expectCanonical(t, l, false)
			expectCanonical(t, append([]api.Cell{'a'}, l...), false)
			expectCanonical(t, append(slices.Clone(l), 0xe9), false)
			expectCanonical(t, append(escapes([]byte("\xd8\xd8")), l...), false)
		}
	}
}

// An escape ahead of a scalar leaves each byte behind it at the wrong place, whatever they are.
func TestEscapeAtOddPlace(t *testing.T) {
	for n := range 256 {
		odd := api.Cell(-1 - n)
		for _, edge := range edges {
			for _, l := range [][]api.Cell{{odd, edge.c}, {'a', odd, edge.c}, {edge.c, odd, edge.c}, {odd, edge.c, odd}} {
				for _, big := range orders {
					b, _ := encoded(l, big)
					expectEncode(t, l, big, b)
					expectDecode(t, b, big, decoded(b, big))
				}
				expectCanonical(t, l, false)
			}
		}
	}
}

// What comes back in one order need not in the other one: both are asked.
func TestCanonicalInOneOrderAlone(t *testing.T) {
	for _, c := range []struct {
		cells []api.Cell
		big   bool
	}{
		{escapes([]byte("\xd8\x00")), true},
		{escapes([]byte("\xdf\xff")), true},
		{escapes([]byte("\x00\xd8")), false},
		{escapes([]byte("\xff\xdf")), false},
		{[]api.Cell{-0xd9, -1, 0x41}, true},
		{[]api.Cell{-1, -0xd9, 0x41}, false},
		{[]api.Cell{0x41, -0xdd, -1}, true},
		{[]api.Cell{0x41, -1, -0xdd}, false},
		{escapes([]byte("\xd8\xd8\xd8\xdc")), true},
		{escapes([]byte("\xd8\xd8\xdc\xd8")), false},
	} {
		for _, big := range orders {
			b, e := utf16.Encode(c.cells, big)
			if is := slices.Equal(utf16.Decode(b, big), c.cells); e != api.OK || is != (big == c.big) {
				t.Errorf("Decode(Encode(%d, %v)) is %v, %d", c.cells, big, is, e)
			}
		}
		expectCanonical(t, c.cells, false)
	}
}

// edgeTexts are all texts of up to 6 bytes that stand at the edges of what is a half, and of which.
func edgeTexts(visit func(b []byte)) {
	const some = "\x00a\xd8\xdb\xdc\xdf\xe0"
	var grow func(s string)
	grow = func(s string) {
		visit([]byte(s))
		for i := 0; i < len(some) && len(s) < 6; i++ {
			grow(s + some[i:i+1])
		}
	}
	grow("")
}

// checkBytes holds the promises about bytes against a decoder of the test's own.
func checkBytes(t *testing.T, b []byte) {
	t.Helper()
	for _, big := range orders {
		l := utf16.Decode(b, big)
		if !slices.Equal(l, decoded(b, big)) {
			t.Fatalf("Decode(%x, %v) = %d", b, big, l)
		}
		if back, e := utf16.Encode(l, big); !bytes.Equal(back, b) || e != api.OK {
			t.Fatalf("Encode(Decode(%x, %v)) = %x, %d", b, big, back, e)
		}
		if is := utf16.Canonical(l); is != canonical(l) {
			t.Fatalf("Canonical(%d) = %v", l, is)
		}
	}
}

func TestThereAndBack(t *testing.T) {
	edgeTexts(func(b []byte) { checkBytes(t, b) })
}

func TestEveryTwoBytes(t *testing.T) {
	for n := range 0x10000 {
		checkBytes(t, []byte{byte(n >> 8), byte(n)})
	}
}

// rows are all rows of up to most of some cells.
func rows(some []api.Cell, most int, visit func(l []api.Cell)) {
	var grow func(l []api.Cell)
	grow = func(l []api.Cell) {
		visit(l)
		for i := 0; i < len(some) && len(l) < most; i++ {
			grow(append(slices.Clone(l), some[i]))
		}
	}
	grow(nil)
}

// checkCells holds the promises about cells against a decoder and an encoder of the test's own.
func checkCells(t *testing.T, l []api.Cell) {
	t.Helper()
	for _, big := range orders {
		want, wantE := encoded(l, big)
		if got, e := utf16.Encode(l, big); !bytes.Equal(got, want) || e != wantE {
			t.Fatalf("Encode(%d, %v) = %x, %d", l, big, got, e)
		}
	}
	if is := utf16.Canonical(l); is != canonical(l) {
		t.Fatalf("Canonical(%d) = %v", l, is)
	}
}

func TestRowsOfCells(t *testing.T) {
	some := append(escapes([]byte("\x00a\xd7\xd8\xdb\xdc\xdf\xe0")), 'a', 0xd8, 0xd7ff, 0xe000, 0xffff, 0x10000, 0x10ffff, 0xdfff)
	rows(some, 4, func(l []api.Cell) { checkCells(t, l) })
}
