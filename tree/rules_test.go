package tree_test

import (
	"go/parser"
	"go/token"
	"math"
	"math/rand"
	"os"
	"slices"
	"strconv"
	"strings"
	"sync"
	"testing"

	"redactor/api"
	"redactor/tree"
)

// What the calls are, as the chapter lists them: another signature would not compile.
var (
	_ func(api.Tree) bool                    = tree.Right
	_ func(api.Tree) string                  = tree.Print
	_ func() *tree.Builder                   = tree.New
	_ func(*tree.Builder, api.Node) int      = (*tree.Builder).Leaf
	_ func(*tree.Builder, int, int) int      = (*tree.Builder).Group
	_ func(*tree.Builder, ...int) int        = (*tree.Builder).Row
	_ func(*tree.Builder, ...int) int        = (*tree.Builder).Either
	_ func(*tree.Builder, int, int, int) int = (*tree.Builder).Times
	_ func(*tree.Builder) api.Tree           = (*tree.Builder).Tree
)

// The numbers that the layer stands on, as the document has them.
func TestNumbersOfTheDocument(t *testing.T) {
	if api.MaxNodes != 200 || api.MaxGroups != 9 || api.MaxElem != 4 || api.MaxTimes != 255 || api.MaxScalar != 0x10ffff {
		t.Error("a limit has another number")
	}
	if l := []uint8{api.One, api.Any, api.Set, api.Begin, api.End, api.Back, api.Group, api.Row, api.Either, api.Times, api.Empty}; !slices.Equal(l, []uint8{1, 2, 3, 4, 5, 6, 7, 8, 9, 10, 11}) {
		t.Errorf("kinds %v", l)
	}
}

// fullNode has something in each of a node's lists.
func fullNode() api.Node {
	return api.Node{Kind: api.Set, Kids: []int{0, 1, 2}, Set: api.Bracket{Ranges: []api.Range{span('a', 'c'), span('x', 'z')}, Texts: [][]api.Cell{{'c', 'h'}, {'l', 'l'}}}}
}

// manyTrees are trees that are right, and some that are not.
func manyTrees() []api.Tree {
	l := append(about(), api.Tree{}, manyRow(200), manyRow(201), deep(200), manyGroups(9, 1, 2, 3, 4, 5, 6, 7, 8, 9), treeOf(0, fullNode()), treeOf(0, row(0, 0)))
	r := rand.New(rand.NewSource(16))
	for range 100 {
		x := someTree(r)
		l = append(l, x, copied(x))
		last := l[len(l)-1]
		changes[r.Intn(len(changes))](r, &last.Nodes[r.Intn(len(last.Nodes))])
	}
	return l
}

// R2: what is handed in stays as it is, whether it is right or wrong.
func TestHandedInStays(t *testing.T) {
	for _, x := range manyTrees() {
		before := copied(x)
		tree.Right(x)
		tree.Print(x)
		b := tree.New()
		for _, n := range x.Nodes {
			b.Leaf(n)
			b.Row(n.Kids...)
			b.Either(n.Kids...)
		}
		b.Tree()
		if !equal(x, before) {
			t.Errorf("now %v, before %v", x, before)
		}
	}
}

func fill[T any](l []T, x T) {
	l = l[:cap(l)]
	for i := range l {
		l[i] = x
	}
}

// overwrite lays other things into all of a node's memory, and behind each list.
func overwrite(n api.Node) {
	for _, l := range n.Set.Texts {
		fill(l, 7)
	}
	fill(n.Set.Texts, nil)
	fill(n.Set.Ranges, span(7, 7))
	fill(n.Kids, 77)
}

func overwriteAll(x api.Tree) {
	for _, n := range x.Nodes {
		overwrite(n)
	}
	fill(x.Nodes, api.Node{Kind: 7, N: 7})
}

// R2: what a builder is told may be written over as soon as the call is done.
func TestHandedInIsNotKept(t *testing.T) {
	b := build(t)
	for range 3 {
		n, kids := fullNode(), []int{3, 4, 5}
		b.Leaf(n)
		b.Row(kids...)
		overwrite(n)
		fill(kids, 77)
		kids = []int{6, 7}
		b.Either(kids...)
		fill(kids, 77)
		b.want.Nodes = append(b.want.Nodes, fullNode(), row(3, 4, 5), either(6, 7))
		b.check()
	}
}

// R2: what comes out is new memory, whoever writes to it or lays more behind it.
func TestComesOutNew(t *testing.T) {
	b := build(t)
	for range 20 {
		b.leaf(fullNode())
		b.group(1, 0)
		b.times(0, 1, 2)
		b.join("Row", 1, 2, 3)
		b.join("Either", 3, 2)
		b.check()
		one, other := b.Tree(), b.Tree()
		overwriteAll(one)
		if !equal(other, b.want) {
			t.Fatalf("two trees share memory: %v", other)
		}
		_ = append(other.Nodes, kind(api.Any))
		overwriteAll(other)
		b.check()
	}
	// A tree stays what it is while more is laid.
	before := b.Tree()
	want := copied(before)
	for range 300 {
		b.leaf(fullNode())
		b.group(2, 0)
	}
	if !equal(before, want) {
		t.Errorf("now %v, before %v", before, want)
	}
	b.check()
}

// What was handed in twice, and what stands twice in one tree, is no shared memory either.
func TestNodesShareNothing(t *testing.T) {
	n := fullNode()
	n.Set.Texts[1] = n.Set.Texts[0]
	b := build(t)
	for range 3 {
		b.Leaf(n)
		b.want.Nodes = append(b.want.Nodes, copied(treeOf(0, n)).Nodes...)
	}
	b.check()
	for at := range 3 {
		x := b.Tree()
		overwrite(x.Nodes[at])
		x.Nodes[at] = n
		if !equal(x, b.want) {
			t.Errorf("node %d shares memory", at)
		}
	}
	x := b.Tree()
	fill(x.Nodes[0].Set.Texts[0], 7)
	if !slices.Equal(x.Nodes[0].Set.Texts[1], []api.Cell{'c', 'h'}) {
		t.Error("two texts share memory")
	}
}

// R2: what lies behind a list's length is neither read, nor written, nor handed out.
func TestBehindTheLength(t *testing.T) {
	// Each list is followed by what would make the tree a wrong one, or another one.
	wrong := api.Node{Kind: 12, N: -1}
	kids := []int{1, 0, 7, 7}
	ranges := []api.Range{span('a', 'c'), span(9, 1)}
	text := []api.Cell{'c', 'h', 0xd800, 7, 7}
	texts := [][]api.Cell{text[:2], {'a'}}
	s := set(api.Bracket{Ranges: ranges[:1], Texts: texts[:1]})
	nodes := []api.Node{one('a'), s, {Kind: api.Row, Kids: kids[:2]}, wrong, wrong}
	x := api.Tree{Nodes: nodes[:3]}
	expect(t, true, "with wrong things behind", x)
	if got := tree.Print(x); got != "[a-c =ch ]'a" {
		t.Errorf("Print = %q", got)
	}
	b := build(t)
	b.leaf(s)
	b.join("Row", kids[:2]...)
	b.join("Either", kids[:0]...)
	b.join("Row", kids[:1]...)
	b.join("Either", kids[2:3]...)
	b.check()
	if kids[2] != 7 || kids[3] != 7 || ranges[1] != span(9, 1) || text[2] != 0xd800 || len(texts[1]) != 1 || nodes[3].Kind != 12 {
		t.Error("what lies behind is written")
	}
	got := b.Tree()
	for _, n := range append(got.Nodes[len(got.Nodes):cap(got.Nodes)], got.Nodes...) {
		for _, kid := range n.Kids[len(n.Kids):cap(n.Kids)] {
			if kid != 0 {
				t.Errorf("a kid %d is handed out behind %v", kid, n.Kids)
			}
		}
		for _, r := range n.Set.Ranges[len(n.Set.Ranges):cap(n.Set.Ranges)] {
			if r != span(0, 0) {
				t.Errorf("%v is handed out behind %v", r, n.Set.Ranges)
			}
		}
		for _, l := range n.Set.Texts[:cap(n.Set.Texts)] {
			for _, c := range l[len(l):cap(l)] {
				if c != 0 {
					t.Errorf("%d is handed out behind %v", c, l)
				}
			}
		}
	}
	for _, n := range got.Nodes[len(got.Nodes):cap(got.Nodes)] {
		if !sameNode(n, api.Node{}) {
			t.Errorf("%v is handed out behind the nodes", n)
		}
	}
}

// R4: builders know nothing of one another.
func TestBuildersKnowNothingOfOneAnother(t *testing.T) {
	one, other := build(t), build(t)
	r := rand.New(rand.NewSource(17))
	for range 200 {
		x := someTree(r)
		laidAs(one, x)
		if r.Intn(3) == 0 {
			laidAs(other, x)
			laidAs(one, x)
		}
		one.check()
		other.check()
	}
	build(t).check()
}

// R4: many may build, ask and print at once.
func TestManyAtOnce(t *testing.T) {
	l := manyTrees()
	want := make([]string, len(l))
	for i, x := range l {
		want[i] = tree.Print(x)
	}
	var wait sync.WaitGroup
	for range 8 {
		wait.Go(func() {
			for i, x := range l {
				b := tree.New()
				for _, n := range x.Nodes {
					b.Leaf(n)
				}
				built := b.Tree()
				built.Groups = x.Groups
				if tree.Print(x) != want[i] || tree.Print(built) != want[i] || tree.Right(x) != (want[i] != "") {
					t.Errorf("another answer of %v", x)
				}
			}
		})
	}
	wait.Wait()
}

// R5, and that the layer stands on api and cell: what it imports can neither print, nor wait, nor ask a clock.
func TestStandsOnTheLayersBelow(t *testing.T) {
	may := []string{"redactor/api", "redactor/cell", "slices", "strconv", "strings"}
	files, err := os.ReadDir(".")
	if err != nil {
		t.Fatal(err)
	}
	for _, f := range files {
		if !strings.HasSuffix(f.Name(), ".go") || strings.HasSuffix(f.Name(), "_test.go") {
			continue
		}
		file, err := parser.ParseFile(token.NewFileSet(), f.Name(), nil, parser.ImportsOnly)
		if err != nil {
			t.Fatal(err)
		}
		for _, i := range file.Imports {
			if path, _ := strconv.Unquote(i.Path.Value); !slices.Contains(may, path) {
				t.Errorf("%s imports %s", f.Name(), path)
			}
		}
	}
}

// R6: no list and an empty one are the same thing.
func TestNilIsEmpty(t *testing.T) {
	empty := func(n api.Node) api.Node {
		if len(n.Kids) == 0 {
			n.Kids = make([]int, 0, 3)
		}
		if len(n.Set.Ranges) == 0 {
			n.Set.Ranges = make([]api.Range, 0, 3)
		}
		if len(n.Set.Texts) == 0 {
			n.Set.Texts = make([][]api.Cell, 0, 3)
		}
		return n
	}
	expect(t, false, "no nodes", api.Tree{Nodes: []api.Node{}})
	for _, x := range manyTrees() {
		y := copied(x)
		for at, n := range y.Nodes {
			y.Nodes[at] = empty(n)
		}
		expect(t, mayBe(x), "with empty lists", y)
		if tree.Print(y) != tree.Print(x) {
			t.Errorf("Print = %q, want %q", tree.Print(y), tree.Print(x))
		}
		b := build(t)
		for _, n := range y.Nodes {
			b.leaf(n)
		}
		b.check()
	}
	for _, text := range [][]api.Cell{nil, {}} {
		expect(t, false, "a text of nothing", treeOf(0, set(api.Bracket{Texts: [][]api.Cell{text}})))
	}
}

// R7: of what is laid each field that is not named has nothing.
func TestOtherFieldsAreNoughts(t *testing.T) {
	b := tree.New()
	b.Group(3, 4)
	b.Times(5, 6, 7)
	b.Row(8, 9)
	b.Either(10, 11)
	b.Row()
	b.Either()
	want := treeOf(1, api.Node{Kind: 7, N: 3, Kids: []int{4}}, api.Node{Kind: 10, Min: 6, Max: 7, Kids: []int{5}}, api.Node{Kind: 8, Kids: []int{8, 9}}, api.Node{Kind: 9, Kids: []int{10, 11}}, api.Node{Kind: 11}, api.Node{Kind: 11})
	if got := b.Tree(); !equal(got, want) {
		t.Errorf("Tree() = %v, want %v", got, want)
	}
}

// T5: each call ends with an answer, however much there is.
func TestManyOfAll(t *testing.T) {
	const many = 1 << 20
	expect(t, false, "many nodes", api.Tree{Nodes: make([]api.Node, many)})
	expect(t, false, "many kids", treeOf(0, one('a'), api.Node{Kind: api.Row, Kids: make([]int, many)}))
	expect(t, false, "a long text", treeOf(0, set(api.Bracket{Texts: [][]api.Cell{make([]api.Cell, many)}})))
	expect(t, false, "many texts of nothing", treeOf(0, set(api.Bracket{Texts: make([][]api.Cell, many)})))
	expect(t, true, "many ranges", treeOf(0, set(api.Bracket{Ranges: make([]api.Range, 1<<12)})))
	ranges := treeOf(0, set(api.Bracket{Ranges: slices.Repeat([]api.Range{span('a', 'b')}, many)}))
	if s := tree.Print(ranges); s != "["+strings.Repeat("a-b ", many)+"]" {
		t.Errorf("Print tells %d bytes", len(s))
	}
	texts := treeOf(0, set(api.Bracket{Texts: slices.Repeat([][]api.Cell{{'c', 'h'}}, many)}))
	if s := tree.Print(texts); s != "["+strings.Repeat("=ch ", many)+"]" {
		t.Errorf("Print tells %d bytes", len(s))
	}
	b := tree.New()
	for n := range 1 << 18 {
		if b.Times(n-1, 0, -1) != n {
			t.Fatalf("another place than %d", n)
		}
	}
	b.Row(make([]int, many)...)
	if x := b.Tree(); len(x.Nodes) != 1<<18+1 || len(x.Nodes[1<<18].Kids) != many || tree.Right(x) {
		t.Errorf("there are %d nodes", len(x.Nodes))
	}
	expect(t, false, "a number beyond all", api.Tree{Nodes: []api.Node{{Kind: 6, N: math.MaxInt}}, Groups: math.MaxInt})
}

// treeOfBytes is a tree that some bytes tell, whatever they are.
func treeOfBytes(l []byte) api.Tree {
	next := func() int {
		if len(l) == 0 {
			return 0
		}
		b := l[0]
		l = l[1:]
		return int(int8(b))
	}
	x := api.Tree{Groups: next()}
	for len(l) > 0 {
		n := api.Node{Kind: uint8(next())}
		fields := next()
		for bit, lay := range []func(){
			func() { n.Cell = api.Cell(next()) << (next() & 31) },
			func() { n.N = next() },
			func() { n.Min = next() & 0x1ff },
			func() { n.Max = next() },
			func() { n.Set.Not = true },
			func() {
				n.Set.Ranges = append(n.Set.Ranges, span(api.Cell(next()), api.Cell(next())<<(next()&31)))
			},
			func() {
				text := make([]api.Cell, next()&7)
				for i := range text {
					text[i] = api.Cell(next())
				}
				n.Set.Texts = append(n.Set.Texts, text)
			},
			func() {
				for range 1 + next()&3 {
					n.Kids = append(n.Kids, len(x.Nodes)-next())
				}
			},
		} {
			if fields>>bit&1 == 1 {
				lay()
			}
		}
		x.Nodes = append(x.Nodes, n)
	}
	return x
}

func FuzzTree(f *testing.F) {
	f.Add([]byte("\x00\x01\x01a\x00"))
	f.Add([]byte("\x00\x01\x01a\x00\x02\x00\x08\x80\x01\x01\x02"))
	f.Add([]byte("\x01\x01\x01a\x00\x07\x82\x01\x00\x01"))
	f.Add([]byte("\x00\x03\x70ac\x00\x02ch\x0a\x88\xff\x00\x01"))
	f.Fuzz(func(t *testing.T, l []byte) {
		x := treeOfBytes(l)
		expect(t, mayBe(x), "some bytes", x)
		b := build(t)
		for _, n := range x.Nodes {
			b.leaf(n)
			b.join("Row", n.Kids...)
			b.join("Either", n.Kids...)
			b.group(n.N, n.Min)
			b.times(n.N, n.Min, n.Max)
		}
		b.check()
	})
}
