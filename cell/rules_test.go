package cell_test

import (
	"go/parser"
	"go/token"
	"math"
	"os"
	"slices"
	"strconv"
	"strings"
	"testing"

	"redactor/api"
	"redactor/cell"
)

// What the calls are, as the chapter lists them: another signature would not compile.
var (
	_ func(api.Cell) bool                                = cell.Right
	_ func(byte) api.Cell                                = cell.Escape
	_ func(api.Cell) (byte, bool)                        = cell.Byte
	_ func(string) []api.Cell                            = cell.Of
	_ func([]api.Cell) string                            = cell.Text
	_ func([]api.Cell, []api.Cell) int                   = cell.Compare
	_ func([]api.Cell, []api.Cell, int) int              = cell.Find
	_ func([]api.Cell, int, int) ([]api.Cell, api.Errno) = cell.Cut
)

func TestLimits(t *testing.T) {
	for name, p := range map[string][2]int{
		"MaxScalar": {api.MaxScalar, 0x10ffff}, "MaxDef": {api.MaxDef, 4000}, "MaxTokens": {api.MaxTokens, 1000},
		"MaxOrder": {api.MaxOrder, 500}, "MaxElem": {api.MaxElem, 4}, "MaxPattern": {api.MaxPattern, 200},
		"MaxNodes": {api.MaxNodes, 200}, "MaxGroups": {api.MaxGroups, 9}, "MaxTimes": {api.MaxTimes, 255},
		"MaxDeep": {api.MaxDeep, 40}, "MaxScript": {api.MaxScript, 4000}, "MaxCmds": {api.MaxCmds, 200},
		"MaxSpace": {api.MaxSpace, 2000}, "MaxOut": {api.MaxOut, 100000}, "MaxFiles": {api.MaxFiles, 20},
		"MaxArgs": {api.MaxArgs, 40},
	} {
		if p[0] != p[1] {
			t.Errorf("%s is %d, want %d", name, p[0], p[1])
		}
	}
}

func TestErrors(t *testing.T) {
	got := []api.Errno{
		api.OK, api.ErrArg, api.ErrLong, api.ErrCell, api.ErrEncode, api.ErrToken, api.ErrForm, api.ErrName, api.ErrTwice,
		api.ErrRange, api.ErrParen, api.ErrTimes, api.ErrRef, api.ErrLabel, api.ErrBlock, api.ErrSteps, api.ErrNone, api.ErrOption,
	}
	want := []api.Errno{0, 1, 3, 10, 11, 20, 30, 31, 32, 40, 41, 42, 43, 50, 51, 60, 61, 70}
	if !slices.Equal(got, want) {
		t.Errorf("the errors are %d, want %d", got, want)
	}
}

func TestKinds(t *testing.T) {
	got := []uint8{
		api.UTF8, api.UTF16, api.Latin1,
		api.Word, api.Sign, api.Scalar, api.Quoted, api.Name, api.EndTok,
		api.One, api.Any, api.Set, api.Begin, api.End, api.Back, api.Group, api.Row, api.Either, api.Times, api.Empty,
	}
	want := []uint8{1, 2, 3, 1, 2, 3, 4, 5, 6, 1, 2, 3, 4, 5, 6, 7, 8, 9, 10, 11}
	if !slices.Equal(got, want) {
		t.Errorf("the kinds are %d, want %d", got, want)
	}
}

// R1: with an error the other result is nothing.
func TestErrorHasNoCells(t *testing.T) {
	for _, p := range [][2]int{{-1, 2}, {2, 1}, {0, 4}, {4, 4}, {-3, -4}, {5, -1}} {
		if l, e := cell.Cut(cell.Of("abc"), p[0], p[1]); e != api.ErrArg || len(l) != 0 {
			t.Errorf("Cut(%d, %d) = %d, %d", p[0], p[1], l, e)
		}
	}
}

// R2: what is handed in stays as it is, up to its memory's end.
func TestHandedInStays(t *testing.T) {
	whole := []api.Cell{'a', '\\', -256, 0x10ffff, 'b', 'c'}
	before := slices.Clone(whole)
	l, sub := whole[:3], whole[1:2]
	cell.Text(l)
	cell.Compare(l, sub)
	cell.Find(l, sub, 0)
	cell.Cut(l, 0, 3)
	cell.Cut(l, 0, 0)
	if !slices.Equal(whole, before) {
		t.Errorf("now %d, before %d", whole, before)
	}
}

// R2: what comes out is new memory, whoever writes to it or lays more behind it.
func TestComesOutNew(t *testing.T) {
	l := cell.Of("abcd")
	a, _ := cell.Cut(l, 1, 3)
	b, _ := cell.Cut(l, 1, 3)
	none, _ := cell.Cut(l, 1, 1)
	a[0] = 'x'
	a = append(a, 'y')
	none = append(none, 'z')
	if cell.Text(l) != "abcd" || cell.Text(b) != "bc" || cell.Text(a) != "xcy" || cell.Text(none) != "z" {
		t.Errorf("%d, %d, %d, %d share memory", l, a, b, none)
	}
	c, d := cell.Of("ab"), cell.Of("ab")
	c[0] = 'x'
	if cell.Text(d) != "ab" || cell.Text(cell.Of("ab")) != "ab" {
		t.Error("two answers of Of share memory")
	}
}

// R2: what lies behind a list's length is not of it.
func TestBehindTheLength(t *testing.T) {
	whole := cell.Of("abcd")
	l := whole[:2]
	if got, e := cell.Cut(l, 0, 3); e != api.ErrArg || len(got) != 0 {
		t.Errorf("Cut reads behind: %d, %d", got, e)
	}
	if got, _ := cell.Cut(l, 0, 2); cap(got) > 2 && cell.Text(got[:3]) == "abc" {
		t.Errorf("Cut hands out what lies behind: %d", got[:cap(got)])
	}
	if cell.Find(l, cell.Of("bc"), 0) != -1 || cell.Find(l, whole[1:2], 0) != 1 || cell.Find(l, nil, 3) != -1 {
		t.Error("Find reads behind")
	}
	if cell.Compare(l, cell.Of("ab")) != 0 || cell.Text(l) != "ab" {
		t.Error("Compare or Text reads behind")
	}
}

// R4: a call knows nothing of those ahead of it.
func TestCallsKeepNothing(t *testing.T) {
	ask := func() string {
		l := cell.Of("a\xffé")
		c, e := cell.Cut(l, 1, 3)
		return cell.Text(l) + cell.Text(c) + strconv.Itoa(int(e)) + strconv.Itoa(cell.Find(l, c, 0)) + strconv.Itoa(cell.Compare(l, c))
	}
	first := ask()
	cell.Cut(nil, 1, 0)
	cell.Text([]api.Cell{math.MaxInt32})
	cell.Of("\xff\xfe")
	if again := ask(); again != first {
		t.Errorf("first %s, then %s", first, again)
	}
}

// R5, and that the layer stands on api alone: what it imports can neither print, nor wait, nor ask a clock.
func TestStandsOnApiAlone(t *testing.T) {
	may := []string{"redactor/api", "slices", "strconv", "strings", "unicode/utf8"}
	files, err := os.ReadDir(".")
	if err != nil {
		t.Fatal(err)
	}
	for _, f := range files {
		if !strings.HasSuffix(f.Name(), ".go") || strings.HasSuffix(f.Name(), "_test.go") {
			continue
		}
		tree, err := parser.ParseFile(token.NewFileSet(), f.Name(), nil, parser.ImportsOnly)
		if err != nil {
			t.Fatal(err)
		}
		for _, i := range tree.Imports {
			if path, _ := strconv.Unquote(i.Path.Value); !slices.Contains(may, path) {
				t.Errorf("%s imports %s", f.Name(), path)
			}
		}
	}
}

// R6: no list and an empty one are the same thing.
func TestNilIsEmpty(t *testing.T) {
	l := cell.Of("ab")
	for _, none := range [][]api.Cell{nil, {}, l[:0], l[2:]} {
		if cell.Text(none) != "" || cell.Compare(none, nil) != 0 || cell.Compare(nil, none) != 0 || cell.Compare(none, l) != -1 {
			t.Errorf("Text or Compare of %#v", none)
		}
		if cell.Find(none, nil, 0) != 0 || cell.Find(none, nil, 1) != -1 || cell.Find(none, l, 0) != -1 || cell.Find(l, none, 1) != 1 {
			t.Errorf("Find of %#v", none)
		}
		if got, e := cell.Cut(none, 0, 0); len(got) != 0 || e != api.OK {
			t.Errorf("Cut of %#v", none)
		}
		if got, e := cell.Cut(none, 0, 1); len(got) != 0 || e != api.ErrArg {
			t.Errorf("Cut beyond %#v", none)
		}
	}
	if len(cell.Of("")) != 0 {
		t.Error("Of of nothing")
	}
}

// T5: each call ends with an answer, whatever it is asked.
func TestAnyInput(t *testing.T) {
	numbers := []int{math.MinInt, math.MinInt32, -1, 0, 1, 2, 3, math.MaxInt32, math.MaxInt}
	some := []api.Cell{math.MinInt32, -257, -256, -1, 0, 0xd800, 0x10ffff, 0x110000, math.MaxInt32}
	for _, c := range some {
		cell.Right(c)
		cell.Byte(c)
	}
	rows(some, 2, func(l []api.Cell) {
		cell.Text(l)
		rows(some, 2, func(sub []api.Cell) {
			cell.Compare(l, sub)
			for _, from := range numbers {
				if at := cell.Find(l, sub, from); at < -1 || at > len(l) {
					t.Fatalf("Find(%d, %d, %d) = %d", l, sub, from, at)
				}
			}
		})
		for _, from := range numbers {
			for _, to := range numbers {
				if got, e := cell.Cut(l, from, to); e != api.OK && (e != api.ErrArg || len(got) != 0) {
					t.Fatalf("Cut(%d, %d, %d) = %d, %d", l, from, to, got, e)
				}
			}
		}
	})
}

func FuzzOf(f *testing.F) {
	for _, s := range []string{"", "a\xff\xc3\xa9", "\xef\xbf\xbd\xef\xbf", "\xed\xa0\x80", "\xf4\x8f\xbf\xbf\xf4\x90"} {
		f.Add(s)
	}
	f.Fuzz(func(t *testing.T, s string) {
		l := cell.Of(s)
		if !slices.Equal(l, decoded(s)) || bytesOf(l) != s || !slices.Equal(read(t, cell.Text(l)), l) {
			t.Errorf("Of(%q) = %d, Text of it %s", s, l, cell.Text(l))
		}
	})
}
