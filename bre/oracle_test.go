package bre_test

import (
	"math/rand"
	"reflect"
	"regexp"
	"slices"
	"strconv"
	"strings"
	"testing"

	"redactor/api"
	"redactor/bracket"
	"redactor/bre"
	"redactor/cell"
	"redactor/collate"
	"redactor/locale"
	"redactor/tree"
)

// looks are what may stand at a place, the first that does counts.
var looks = regexp.MustCompile(`^(?:(\\\()|(\\\))|\\\{([0-9]{1,3})(,?)([0-9]{0,3})\\\}|(\\[{}])|\\([1-9])|(\\n)|\\([].[*^$/\\])|(\\)|(\^)|(\$)|(\.)|(\[)|(\*)|(.))`)

// What of looks was seen.
const (
	_ = iota
	groupBegins
	groupEnds
	least
	apart
	most
	noTimes
	back
	newLine
	escaped
	noEscape
	begins
	ends
	anyCell
	set
	star
	_
)

// shape has a sign for each cell: those that a pattern knows, and x for all others.
func shape(l []api.Cell) string {
	var s strings.Builder
	for _, c := range l {
		if c < 0 || c > 0x7f || !strings.ContainsRune(`\(){}0123456789n.[]*^$/,`, rune(c)) {
			c = 'x'
		}
		s.WriteByte(byte(c))
	}
	return s.String()
}

// within is a group that has begun, or all of a pattern.
type within struct {
	number, at int
	kids       []int
}

// flat goes through a pattern by what it looks like, and keeps what has begun in a list; the first error stays.
type flat struct {
	cells  []api.Cell
	shape  string
	at     int
	table  *collate.Table
	nodes  []api.Node
	begun  []within
	ended  map[int]bool
	free   bool // no atom stands ahead
	groups int
	err    api.Errno
	wrong  int
}

// parsed is what a pattern should be.
func parsed(l []api.Cell, t *collate.Table) (api.Tree, api.Errno, int) {
	if len(l) > 200 {
		return api.Tree{}, 3, 0
	}
	f := &flat{cells: l, shape: shape(l), table: t, begun: []within{{}}, ended: map[int]bool{}, free: true}
	for f.err == 0 && f.at < len(l) {
		f.step(looks.FindStringSubmatch(f.shape[f.at:]))
	}
	if f.err == 0 && len(f.begun) > 1 {
		f.fail(41, f.last().at)
	}
	if f.err != 0 {
		return api.Tree{}, f.err, f.wrong
	}
	f.row()
	if len(f.nodes) > 200 || slices.ContainsFunc(f.nodes, func(n api.Node) bool { return n.Kind == 1 && !cell.Right(n.Cell) }) {
		return api.Tree{}, 3, 0
	}
	return api.Tree{Nodes: f.nodes, Groups: f.groups}, 0, 0
}

func (f *flat) fail(err api.Errno, at int) {
	f.err, f.wrong = err, at
}

func (f *flat) last() *within { return &f.begun[len(f.begun)-1] }

// lay puts a node behind all others, as the last one of its row.
func (f *flat) lay(n api.Node) {
	f.nodes = append(f.nodes, n)
	f.last().kids = append(f.last().kids, len(f.nodes)-1)
	f.free = false
}

func (f *flat) one(c api.Cell) { f.lay(api.Node{Kind: 1, Cell: c}) }

// row makes one of what stands in what has begun last.
func (f *flat) row() {
	kids := f.last().kids
	if len(kids) == 1 {
		return
	}
	kind := uint8(8)
	if len(kids) == 0 {
		kind = 11
	}
	f.last().kids = nil
	f.lay(api.Node{Kind: kind, Kids: kids})
}

// times repeats what stands last, if it may be repeated.
func (f *flat) times(least, most int) {
	kids := f.last().kids
	kid := kids[len(kids)-1]
	f.last().kids = kids[:len(kids)-1]
	f.lay(api.Node{Kind: 10, Min: least, Max: most, Kids: []int{kid}})
}

func number(s string) int {
	n, _ := strconv.Atoi(s)
	return n
}

func (f *flat) step(seen []string) {
	begin := f.at
	f.at += len(seen[0])
	is := func(what int) bool { return seen[what] != "" }
	switch {
	case is(groupBegins):
		f.groups++
		if f.groups > 9 {
			f.fail(3, begin)
		}
		f.begun = append(f.begun, within{number: f.groups, at: begin})
		f.free = true
	case is(groupEnds):
		f.endGroup(begin)
	case is(least):
		f.interval(seen, begin)
	case is(noTimes):
		f.fail(42, begin)
	case is(back) && !f.ended[number(seen[back])]:
		f.fail(43, begin)
	case is(back):
		f.lay(api.Node{Kind: 6, N: number(seen[back])})
	case is(newLine):
		f.one(0x0a)
	case is(escaped):
		f.one(f.cells[begin+1])
	case is(noEscape):
		f.fail(30, begin)
	case is(anyCell):
		f.lay(api.Node{Kind: 2})
	case is(set):
		f.set()
	case is(begins) && f.free && len(f.last().kids) == 0:
		f.lay(api.Node{Kind: 4})
		f.free = true
	case is(ends) && (f.shape[f.at:] == "" || strings.HasPrefix(f.shape[f.at:], `\)`)):
		f.lay(api.Node{Kind: 5})
	case is(star) && !f.free:
		f.times(0, -1)
	default:
		f.one(f.cells[begin])
	}
}

func (f *flat) endGroup(at int) {
	if len(f.begun) == 1 {
		f.fail(41, at)
		return
	}
	f.row()
	done := *f.last()
	f.begun = f.begun[:len(f.begun)-1]
	f.ended[done.number] = true
	f.lay(api.Node{Kind: 7, N: done.number, Kids: done.kids})
}

func (f *flat) interval(seen []string, at int) {
	from, to := number(seen[least]), number(seen[most])
	switch {
	case seen[apart] == "" && seen[most] != "": // more than three digits
		from = 256
	case seen[apart] == "":
		to = from
	case seen[most] == "":
		to = -1
	}
	if f.free || from > 255 || to > 255 || to >= 0 && to < from {
		f.fail(42, at)
		return
	}
	f.times(from, to)
}

func (f *flat) set() {
	s, behind, err, at := bracket.Parse(f.cells, f.at, f.table)
	if err != 0 {
		f.fail(err, at)
		return
	}
	f.at = behind
	f.lay(api.Node{Kind: 3, Set: s})
}

// same says whether two trees are the same thing; no list and an empty one are.
func same(a, b api.Tree) bool {
	return a.Groups == b.Groups && slices.EqualFunc(a.Nodes, b.Nodes, func(a, b api.Node) bool {
		return slices.Equal(a.Kids, b.Kids) && sameSet(a.Set, b.Set) && reflect.DeepEqual(bare(a), bare(b))
	})
}

func sameSet(a, b api.Bracket) bool {
	return a.Not == b.Not && slices.Equal(a.Ranges, b.Ranges) && slices.EqualFunc(a.Texts, b.Texts, slices.Equal)
}

// bare is a node without its lists.
func bare(n api.Node) api.Node {
	n.Kids, n.Set = nil, api.Bracket{}
	return n
}

// asking is a table that patterns are parsed by.
type asking struct {
	*testing.T
	table *collate.Table
}

func askPlain(t *testing.T) asking { return asking{t, collate.New(collate.Plain())} }

// wholeText is a definition whose order has elements of several cells.
const wholeText = `class vowel <U0061>;<U0065>...<U0069>;<U006F>
collating-element <ch> from "ch"
collating-element <odd> from "\)"
order <U0061>
order <U00E1>;<U0061>
order <ch>
order <U0063>;<ch>
order <odd>
`

func askWhole(t *testing.T) asking {
	t.Helper()
	l, e, at := locale.Parse(wholeText)
	if e != api.OK {
		t.Fatalf("%d at %d", e, at)
	}
	return asking{t, collate.New(l)}
}

// expect asks for a pattern, and holds it against the test's own.
func (a asking) expect(l []api.Cell) (api.Tree, api.Errno) {
	a.Helper()
	x, e, at := bre.Parse(l, a.table)
	want, wantE, wantAt := parsed(l, a.table)
	if !same(x, want) || e != wantE || at != wantAt {
		a.Fatalf("Parse(%s) = %s, %d, %d, want %s, %d, %d", cell.Text(l), tree.Print(x), e, at, tree.Print(want), wantE, wantAt)
	}
	if e == api.OK && !tree.Right(x) || e != api.OK && at > len(l) {
		a.Fatalf("Parse(%s) = %v, %d, %d", cell.Text(l), x, e, at)
	}
	return x, e
}

// bits are what random patterns are made of.
var bits = strings.Fields(`a b é \( \( \) \) \(a\) * * ^ $ . [ [a] []] [^]-a] [[:digit:]] [[.a.]] [[.ch.]] [[=a=]] [:vowel:] [[:vowel:]-] ] \{ \} { } \{1\} \{0,\} \{2,3\} \{3,2\} \{255\} \{256\} \{1 , 0 1 12 123 \1 \2 \9 \0 \n n \. \[ \] \* \^ \$ \/ \\ \x \ / - ( ) \+ \? \|`)

func someText(r *rand.Rand) []api.Cell {
	var s strings.Builder
	for range r.Intn(12) {
		s.WriteString(bits[r.Intn(len(bits))])
	}
	l := cell.Of(s.String())
	if r.Intn(8) == 0 {
		l = append(l, []api.Cell{-1, -256, '\n', 0, 0xd800, 0x110000}[r.Intn(6)])
	}
	return l
}
