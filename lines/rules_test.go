package lines_test

import (
	"bytes"
	"go/parser"
	"go/token"
	"math"
	"os"
	"slices"
	"strconv"
	"strings"
	"testing"

	"redactor/api"
	"redactor/cell"
	"redactor/codec"
	"redactor/lines"
)

// What the calls are, as the chapter lists them: another signature would not compile.
var (
	_ func([]api.Cell) []api.Line      = lines.Split
	_ func([]api.Line) []api.Cell      = lines.Join
	_ func([]api.Cell, int) (int, int) = lines.Number
	_ func([]api.Cell) int             = lines.Count
)

// R1: of a place that is none both numbers are 0, however many lines there are.
func TestNoPlaceHasNoNumbers(t *testing.T) {
	for n := range 40 {
		l := slices.Repeat([]api.Cell{'a', 0x0a}, n)
		for _, at := range []int{-1, len(l) + 1} {
			if line, k := lines.Number(l, at); line != 0 || k != 0 {
				t.Errorf("Number(%d, %d) = %d, %d", l, at, line, k)
			}
		}
	}
}

// cloneLines are lines in memory of their own, up to its end.
func cloneLines(l []api.Line) []api.Line {
	clone := slices.Clone(l)
	for i := range clone {
		clone[i].Cells = slices.Clone(clone[i].Cells)
	}
	return clone
}

// R2: what is handed in stays as it is, up to its memory's end.
func TestHandedInStays(t *testing.T) {
	cells := []api.Cell{'a', 0x0a, 0x0a, -256, 0xd800, 0x0a, 'b', 'c', 0x0a}
	before := slices.Clone(cells)
	for n := range len(cells) + 1 {
		lines.Split(cells[:n])
		lines.Count(cells[:n])
		for at := -1; at <= n+1; at++ {
			lines.Number(cells[:n], at)
		}
	}
	if !slices.Equal(cells, before) {
		t.Errorf("now %d, before %d", cells, before)
	}
	// Each line's cells lie ahead of others in the same memory: an end that were laid behind them would be seen there.
	rows := []api.Line{{Cells: cells[:1], Ended: true}, {Cells: cells[3:3], Ended: true}, {Cells: cells[4:6]}, {Cells: cells[6:7], Ended: true}}
	rowsBefore := cloneLines(rows)
	for n := range len(rows) + 1 {
		lines.Join(rows[:n])
	}
	if !slices.Equal(cells, before) || !sameLines(rows, rowsBefore) {
		t.Errorf("now %d, %v, before %d, %v", cells, rows, before, rowsBefore)
	}
}

// R2: what was handed in may be written over later.
func TestHandedInIsNotKept(t *testing.T) {
	text := cell.Of("ab\n\ncd")
	all := lines.Split(text)
	clear(text)
	want := []api.Line{ended("ab"), ended(""), open("cd")}
	if !sameLines(all, want) {
		t.Errorf("Split keeps its cells: %v", all)
	}
	for _, l := range [][]api.Line{{open("ab")}, {open("ab"), ended("c")}, {open(""), open("ab")}} {
		joined, asked := lines.Join(l), join(l)
		for _, line := range l {
			clear(line.Cells)
		}
		clear(l)
		if !slices.Equal(joined, asked) {
			t.Errorf("Join keeps its cells: %d, want %d", joined, asked)
		}
	}
}

// R2: what comes out is new memory, whoever writes to it or lays more behind it.
func TestComesOutNew(t *testing.T) {
	text := cell.Of("ab\n\ncd\ne")
	want := split(text)
	one, other := lines.Split(text), lines.Split(text)
	for _, line := range one {
		clear(line.Cells[:cap(line.Cells)])
	}
	clear(one[:cap(one)])
	if again := lines.Split(text); !sameLines(other, want) || !sameLines(again, want) || cell.Text(text) != `ab\n\ncd\ne` {
		t.Errorf("%v, %v, %d share memory", other, again, text)
	}
	joined, beside := lines.Join(other), lines.Join(other)
	clear(joined[:cap(joined)])
	if again := lines.Join(other); !slices.Equal(beside, text) || !slices.Equal(again, text) || !sameLines(other, want) {
		t.Errorf("%d, %d, %v share memory", beside, again, other)
	}
	single := []api.Line{open("ab")}
	alone := lines.Join(single)
	clear(alone[:cap(alone)])
	if !sameLines(single, []api.Line{open("ab")}) {
		t.Errorf("Join hands out a line's own cells: %v", single)
	}
}

// R2: no line's memory is that of another one of the same answer, up to its end.
func TestLinesShareNoMemory(t *testing.T) {
	text := cell.Of("ab\n\ncd\n\ne")
	want := split(text)
	for i := range want {
		all := lines.Split(text)
		full := all[i].Cells[:cap(all[i].Cells)]
		for n := range full {
			full[n] = 'x'
		}
		all[i].Cells = want[i].Cells
		if !sameLines(all, want) || cell.Text(text) != `ab\n\ncd\n\ne` {
			t.Errorf("line %d shares memory: %v", i, all)
		}
	}
}

// R2: what lies behind a list's length is not of it: neither an end nor a cell.
func TestBehindTheLength(t *testing.T) {
	whole := cell.Of("a\n\nbc\nd")
	for n := range len(whole) + 1 {
		check(t, whole[:n])
		check(t, whole[n:n])
		all := lines.Split(whole[:n])
		for _, line := range all {
			expectNoughtsBehind(t, line.Cells)
		}
		for _, line := range all[len(all):cap(all)] {
			if len(line.Cells) != 0 || line.Ended {
				t.Errorf("%v is handed out behind %v", line, all)
			}
		}
	}
	if n, k := lines.Number(whole[:1], 2); n != 0 || k != 0 {
		t.Errorf("Number reads behind: %d, %d", n, k)
	}
	all := []api.Line{{Cells: whole[:1]}, {Cells: whole[1:1], Ended: true}, ended("x"), open("y")}
	for n := range len(all) {
		joined := lines.Join(all[:n])
		if !slices.Equal(joined, join(all[:n])) {
			t.Errorf("Join reads behind: %d", joined)
		}
		expectNoughtsBehind(t, joined)
	}
}

func expectNoughtsBehind(t *testing.T, l []api.Cell) {
	t.Helper()
	for _, c := range l[len(l):cap(l)] {
		if c != 0 {
			t.Errorf("%d is handed out behind %d", c, l)
		}
	}
}

// R4: a call knows nothing of those ahead of it: neither a line that was not ended nor a number is carried on.
func TestCallsKeepNothing(t *testing.T) {
	ask := func() string {
		l := cell.Of("a\n\xffb")
		n, k := lines.Number(l, 3)
		all := lines.Split(l)
		return cell.Text(lines.Join(all)) + " " + strconv.Itoa(n) + " " + strconv.Itoa(k) + " " + strconv.Itoa(lines.Count(l)) + strconv.FormatBool(all[1].Ended)
	}
	first := ask()
	lines.Split(cell.Of("x\ny"))
	lines.Join([]api.Line{open("x")})
	lines.Number(cell.Of("\n\n\n"), 4)
	lines.Number(nil, 1)
	lines.Count(cell.Of("\n\nx"))
	if again := ask(); again != first || first != `a\n\xffb 2 2 2false` {
		t.Errorf("first %s, then %s", first, again)
	}
}

// R5, and that the layer stands on api alone: what it imports can neither print, nor wait, nor ask a clock.
func TestStandsOnApiAlone(t *testing.T) {
	may := []string{"redactor/api", "iter", "slices"}
	files, err := os.ReadDir(".")
	if err != nil {
		t.Fatal(err)
	}
	for _, f := range files {
		if !strings.HasSuffix(f.Name(), ".go") || strings.HasSuffix(f.Name(), "_test.go") {
			continue
		}
		tree, err := parser.ParseFile(token.NewFileSet(), f.Name(), nil, parser.ImportsOnly)
		if err != nil {
			t.Fatal(err)
		}
		for _, i := range tree.Imports {
			if path, _ := strconv.Unquote(i.Path.Value); !slices.Contains(may, path) {
				t.Errorf("%s imports %s", f.Name(), path)
			}
		}
	}
}

// R6: no list and an empty one are the same thing, wherever the empty one lies.
func TestNilIsEmpty(t *testing.T) {
	cells := []api.Cell{'a', 0x0a, 'b'}
	for _, l := range [][]api.Cell{nil, {}, cells[:0], cells[1:1], cells[3:]} {
		check(t, l)
		if got := lines.Split(l); len(got) != 0 || lines.Count(l) != 0 {
			t.Errorf("Split(%#v) = %v", l, got)
		}
		if n, k := lines.Number(l, 0); n != 1 || k != 1 {
			t.Errorf("Number(%#v, 0) = %d, %d", l, n, k)
		}
		if got := lines.Join([]api.Line{{Cells: l, Ended: true}, {Cells: l}, {Cells: l, Ended: true}}); !slices.Equal(got, []api.Cell{0x0a, 0x0a}) {
			t.Errorf("Join of lines of %#v = %d", l, got)
		}
	}
	rows := []api.Line{ended("a")}
	for _, l := range [][]api.Line{nil, {}, rows[:0], rows[1:]} {
		if got := lines.Join(l); len(got) != 0 {
			t.Errorf("Join(%#v) = %d", l, got)
		}
	}
}

// thereAndBack are bytes, decoded, split, joined and encoded.
func thereAndBack(t *testing.T, enc uint8, b []byte) []byte {
	t.Helper()
	d, e := codec.Decode(enc, b)
	if e != api.OK {
		t.Fatalf("Decode(%d, %x): %d", enc, b, e)
	}
	back, e := codec.Encode(codec.With(d, lines.Join(lines.Split(d.Cells))))
	if e != api.OK {
		t.Fatalf("Encode of the lines of %x: %d", b, e)
	}
	return back
}

var encs = []uint8{api.UTF8, api.UTF16, api.Latin1}

// T2: whatever bytes there are, their lines have them all, in each encoding; so has each part of them.
func TestBytesComeBack(t *testing.T) {
	text := []byte("\xfe\xff\x00a\x00\r\x00\n\x00\n\xd8\x3d\xde\x00\xdc\x00\xef\xbb\xbf\n\xc3\xa9\xc3\n\xd8\x00\x00\n\n\xed\xa0\x80\x0a\x00\xff\n\xff\xfe\n")
	for from := range len(text) {
		for to := from; to <= len(text); to++ {
			for _, enc := range encs {
				if back := thereAndBack(t, enc, text[from:to]); !bytes.Equal(back, text[from:to]) {
					t.Fatalf("%x comes back as %x in %d", text[from:to], back, enc)
				}
			}
		}
	}
}

// A byte 0a that is of no line's end stays what it is: the half of a unit, or an escape.
func TestByteOfNoEnd(t *testing.T) {
	for _, c := range []struct {
		enc  uint8
		text string
		want []api.Line
	}{
		{api.UTF16, "\x0a\x00\x01\x0a", []api.Line{{Cells: []api.Cell{0x0a00, 0x010a}}}},
		{api.UTF16, "\x00a\x00\x0a\x0a", []api.Line{ended("a"), {Cells: []api.Cell{escapedEnd}}}},
		{api.UTF16, "\xff\xfe\x0a\x00\x00\x0a", []api.Line{ended(""), {Cells: []api.Cell{0x0a00}}}},
		{api.UTF16, "\xd8\x0a\x00\x0a", []api.Line{{Cells: []api.Cell{-0xd9, escapedEnd}, Ended: true}}},
		{api.UTF8, "\xc3\n\xa9", []api.Line{ended("\xc3"), open("\xa9")}},
		{api.Latin1, "\x85\n\xff", []api.Line{ended("\u0085"), open("\u00ff")}},
	} {
		d, _ := codec.Decode(c.enc, []byte(c.text))
		expectSplit(t, d.Cells, c.want...)
	}
}

// T4: the same characters have the same lines and numbers, in whatever encoding.
func TestCharactersHaveTheSameLines(t *testing.T) {
	for _, s := range []string{"", "\n", "a", "a\nb", "a\r\n\u00e9\n", "\n\n\u00ff\n\u0085x"} {
		want := split(cell.Of(s))
		for _, d := range []api.Doc{{Enc: api.UTF8}, {Enc: api.Latin1}, {Enc: api.UTF16, Big: true}, {Enc: api.UTF16, Big: true, Bom: true}, {Enc: api.UTF16, Bom: true}} {
			b, _ := codec.Encode(codec.With(d, cell.Of(s)))
			back, _ := codec.Decode(d.Enc, b)
			check(t, back.Cells)
			if got := lines.Split(back.Cells); !sameLines(got, want) {
				t.Errorf("%q in %v: %v, want %v", s, d, got, want)
			}
		}
	}
}

// T5: each call ends with an answer, whatever it is asked: many cells and many lines, too.
func TestAnyInput(t *testing.T) {
	rows(append(slices.Clone(alike), 0x0a), 2, func(l []api.Cell) { check(t, l) })
	for _, l := range [][]api.Cell{{'a'}, {0x0a}, {'a', 0x0a}, {0x0a, 0x0a, 'b'}, {0xd800, math.MinInt32, 0x0a, math.MaxInt32}} {
		check(t, slices.Repeat(l, 301))
	}
	long := slices.Repeat([]api.Cell{0x10ffff}, 1000000)
	if all := lines.Split(long); len(all) != 1 || all[0].Ended || !slices.Equal(all[0].Cells, long) {
		t.Errorf("Split of one long line has %d lines", len(all))
	}
	if n, k := lines.Number(long, 1000000); n != 1 || k != 1000001 {
		t.Errorf("Number in one long line is %d, %d", n, k)
	}
	many := slices.Repeat([]api.Cell{0x0a}, 1000000)
	if all := lines.Split(many); len(all) != 1000000 || lines.Count(many) != 1000000 || !slices.Equal(lines.Join(all), many) {
		t.Errorf("Split of many lines has %d", len(all))
	}
	if n, k := lines.Number(many, 1000000); n != 1000001 || k != 1 {
		t.Errorf("Number in many lines is %d, %d", n, k)
	}
}

// cellsOf makes cells of four bytes each, with those that are none among them; a byte 0a that begins one, and each byte left over, is one by itself.
func cellsOf(b []byte) []api.Cell {
	var l []api.Cell
	for len(b) > 0 {
		if b[0] == 0x0a || len(b) < 4 {
			l, b = append(l, api.Cell(b[0])), b[1:]
			continue
		}
		l = append(l, api.Cell(int32(b[0])<<24|int32(b[1])<<16|int32(b[2])<<8|int32(b[3])))
		b = b[4:]
	}
	return l
}

func FuzzSplit(f *testing.F) {
	for _, s := range []string{"", "\n", "a\nb", "\n\n\x00\x00\x20\x28\n", "\xff\xff\xff\xf5\n\x00\x00\xd8\x00", "\x00\x00\x00\x0a"} {
		f.Add([]byte(s), 2)
	}
	f.Fuzz(func(t *testing.T, b []byte, at int) {
		l := cellsOf(b)
		check(t, l)
		checkNumber(t, l, at)
		for _, enc := range encs {
			if back := thereAndBack(t, enc, b); !bytes.Equal(back, b) {
				t.Fatalf("%x comes back as %x in %d", b, back, enc)
			}
		}
	})
}

// FuzzJoin makes lines of a text's: some are not ended, and some have a 0a among their own cells.
func FuzzJoin(f *testing.F) {
	for _, s := range []string{"", "|", "a.b|", "a\n|.|\n.c", ".."} {
		f.Add(s)
	}
	f.Fuzz(func(t *testing.T, s string) {
		var l []api.Line
		for part := range strings.SplitAfterSeq(s, "|") {
			for piece := range strings.SplitSeq(part, ".") {
				text, is := strings.CutSuffix(piece, "|")
				l = append(l, api.Line{Cells: cell.Of(text), Ended: is})
			}
		}
		joined := lines.Join(l)
		if !slices.Equal(joined, join(l)) {
			t.Fatalf("Join(%v) = %d", l, joined)
		}
		if back := lines.Split(joined); sameLines(back, l) != isText(l) || !slices.Equal(lines.Join(back), joined) {
			t.Fatalf("Split(Join(%v)) = %v", l, back)
		}
	})
}
