package tree_test

import (
	"math"
	"math/rand"
	"slices"
	"testing"

	"redactor/api"
	"redactor/tree"
)

// expect says whether a tree is told to be right, or not, and that it is printed just then; it must be as the test's own Right says, too.
func expect(t *testing.T, is bool, why string, x api.Tree) {
	t.Helper()
	if mayBe(x) != is {
		t.Fatalf("%s: the test itself tells %v of %.200v", why, !is, x)
	}
	if tree.Right(x) != is {
		t.Errorf("%s: Right is %v of %.200v", why, !is, x)
	}
	want := ""
	if is {
		want = shown(x, len(x.Nodes)-1)
	}
	if got := tree.Print(x); got != want {
		t.Errorf("%s: Print tells %.200q, want %.200q", why, got, want)
	}
}

// manyRow is a tree of so many nodes: cells, and a row of them.
func manyRow(n int) api.Tree {
	var x api.Tree
	var kids []int
	for at := range n - 1 {
		kids = append(kids, at)
		x.Nodes = append(x.Nodes, one('a'))
	}
	x.Nodes = append(x.Nodes, row(kids...))
	return x
}

// deep is a tree of so many nodes: each about the one ahead of it.
func deep(n int) api.Tree {
	x := treeOf(0, one('a'))
	for at := range n - 1 {
		x.Nodes = append(x.Nodes, times(at, 0, -1))
	}
	return x
}

// manyGroups is a tree of groups about one another, with these numbers.
func manyGroups(groups int, numbers ...int) api.Tree {
	x := treeOf(groups, kind(api.Any))
	for at, n := range numbers {
		x.Nodes = append(x.Nodes, group(n, at))
	}
	return x
}

func TestNumberOfNodes(t *testing.T) {
	expect(t, false, "no nodes", api.Tree{})
	expect(t, false, "no nodes but groups", api.Tree{Groups: 1})
	expect(t, true, "one node", treeOf(0, kind(api.Empty)))
	for n := 3; n <= 205; n++ {
		expect(t, n <= 200, "many nodes in a row", manyRow(n))
	}
	for n := 1; n <= 205; n++ {
		expect(t, n <= 200, "many nodes about one another", deep(n))
	}
}

func TestNumberOfGroups(t *testing.T) {
	for n := range 12 {
		var up, down []int
		for i := range n {
			up, down = append(up, i+1), append(down, n-i)
		}
		for _, groups := range []int{-1, n - 1, n, n + 1, 9, 10, math.MaxInt, math.MinInt} {
			is := groups == n && n <= 9
			expect(t, is, "groups", manyGroups(groups, up...))
			expect(t, is, "groups, the last number first", manyGroups(groups, down...))
		}
	}
	for _, x := range []struct {
		groups  int
		numbers []int
	}{
		{2, []int{1, 1}}, {1, []int{1, 1}}, {2, []int{2, 2}}, {2, []int{1}}, {2, []int{2}}, {2, []int{1, 3}}, {3, []int{1, 3}}, {3, []int{1, 3, 3}}, {3, []int{1, 2, 2}},
		{1, []int{0}}, {1, []int{-1}}, {1, []int{2}}, {0, []int{0}}, {0, []int{1}}, {2, []int{0, 1}}, {2, []int{1, 2, 0}}, {9, []int{1, 2, 3, 4, 5, 6, 7, 8, 10}}, {9, []int{9}},
		{1, []int{math.MaxInt}}, {1, []int{math.MinInt}}, {9, []int{1, 2, 3, 4, 5, 6, 7, 8, 8}},
	} {
		expect(t, false, "numbers of groups", manyGroups(x.groups, x.numbers...))
	}
	expect(t, true, "groups side by side, the second one first", treeOf(2, one('a'), group(2, 0), one('b'), group(1, 2), row(3, 1)))
}

// Each node's kids are ahead of it, each node but the last one is a kid just once.
func TestKids(t *testing.T) {
	a, b := one('a'), one('b')
	for why, x := range map[string]api.Tree{
		"two":                       treeOf(0, a, b, row(0, 1)),
		"two, the second one first": treeOf(0, a, b, either(1, 0)),
		"a row of rows":             treeOf(0, a, b, row(0, 1), a, b, row(4, 3), row(5, 2)),
		"kids far ahead":            treeOf(0, a, b, kind(api.Any), times(1, 0, 1), row(2, 0, 3)),
	} {
		expect(t, true, why, x)
	}
	for why, x := range map[string]api.Tree{
		"itself":                       treeOf(0, times(0, 0, 1)),
		"itself, behind another one":   treeOf(0, a, times(1, 0, 1)),
		"itself, too":                  treeOf(0, a, row(0, 1)),
		"one behind":                   treeOf(0, times(1, 0, 1), a),
		"one behind, in the midst":     treeOf(0, a, times(2, 0, 1), b, row(0, 1, 2)),
		"each other":                   treeOf(0, times(1, 0, 1), times(0, 0, 1)),
		"none that there is":           treeOf(0, a, row(0, 2)),
		"none that there is, alone":    treeOf(0, times(7, 0, 1)),
		"below all":                    treeOf(0, a, row(-1, 0)),
		"below all, alone":             treeOf(0, a, times(-1, 0, 1)),
		"far above all":                treeOf(0, a, row(0, math.MaxInt)),
		"far below all":                treeOf(0, a, row(0, math.MinInt)),
		"twice":                        treeOf(0, a, row(0, 0)),
		"twice, and the other not":     treeOf(0, a, b, row(0, 0)),
		"twice, and the other one too": treeOf(0, a, b, row(0, 1, 0)),
		"of two":                       treeOf(0, a, times(0, 0, 1), times(0, 0, 1), row(1, 2)),
		"of two, of which one is last": treeOf(0, a, times(0, 0, 1), row(0, 1)),
		"of none, ahead":               treeOf(0, a, b),
		"of none, in the midst":        treeOf(0, a, b, times(0, 0, 1)),
		"of none, a leaf behind":       treeOf(0, a, times(0, 0, 1), b),
		"of none, two tops":            treeOf(0, a, b, row(0, 1), a, b, row(3, 4)),
	} {
		expect(t, false, why, x)
	}
}

// about are trees with the node at their end, and what it asks for ahead of it: of each kind a right one.
func about() []api.Tree {
	a, b := one('a'), one('b')
	return []api.Tree{
		treeOf(0, one('a')), treeOf(0, kind(api.Any)), treeOf(0, set(api.Bracket{Not: true, Ranges: []api.Range{span('a', 'c')}, Texts: [][]api.Cell{{'c', 'h'}}})),
		treeOf(0, kind(api.Begin)), treeOf(0, kind(api.End)), treeOf(1, a, group(1, 0), back(1), row(1, 2)), treeOf(1, a, group(1, 0)),
		treeOf(0, a, b, row(0, 1)), treeOf(0, a, b, either(0, 1)), treeOf(0, a, times(0, 2, 3)), treeOf(0, kind(api.Empty)),
	}
}

// foreign lays into a field of a node what is not nothing.
var foreign = map[string]func(n *api.Node){
	"Cell":   func(n *api.Node) { n.Cell = 'x' },
	"Escape": func(n *api.Node) { n.Cell = -1 },
	"Not":    func(n *api.Node) { n.Set.Not = true },
	"Ranges": func(n *api.Node) { n.Set.Ranges = []api.Range{span('a', 'a')} },
	"Texts":  func(n *api.Node) { n.Set.Texts = [][]api.Cell{{'a', 'b'}} },
	"NoText": func(n *api.Node) { n.Set.Texts = [][]api.Cell{nil} },
	"N":      func(n *api.Node) { n.N = 1 },
	"Below":  func(n *api.Node) { n.N = -1 },
	"Min":    func(n *api.Node) { n.Min = 1 },
	"Max":    func(n *api.Node) { n.Max = 3 },
	"AnyMax": func(n *api.Node) { n.Max = -1 },
	"Kids":   func(n *api.Node) { n.Kids = append(n.Kids, 0) },
}

// Of each kind all that it does not ask for is 0, or nothing.
func TestAllElseIsNothing(t *testing.T) {
	may := map[uint8][]string{
		api.One: {"Cell", "Escape"}, api.Set: {"Not", "Ranges", "Texts"}, api.Back: {"N"}, api.Group: {"N"}, api.Times: {"Min", "Max", "AnyMax"},
	}
	seen := map[uint8]bool{}
	for _, right := range about() {
		expect(t, true, "a right one", right)
		for at := range right.Nodes {
			for field, lay := range foreign {
				x := copied(right)
				n := &x.Nodes[at]
				seen[n.Kind] = true
				lay(n)
				expect(t, slices.Contains(may[n.Kind], field), field, x)
			}
		}
	}
	if len(seen) != 11 {
		t.Errorf("kinds %v", seen)
	}
}

// Of any other kind there is no node, whatever it has.
func TestKinds(t *testing.T) {
	for k := range 256 {
		for _, right := range about() {
			x := copied(right)
			last := &x.Nodes[len(x.Nodes)-1]
			own := last.Kind
			last.Kind = uint8(k)
			blank := len(x.Nodes) == 1 && (own == 2 || own == 4 || own == 5 || own == 11) && (k >= 1 && k <= 5 || k == 11)
			rows := (own == 8 || own == 9) && (k == 8 || k == 9)
			expect(t, uint8(k) == own || blank || rows, "another kind", x)
		}
		if k == 0 || k > 11 {
			expect(t, false, "no kind", treeOf(0, kind(uint8(k))))
		}
	}
}

func TestOne(t *testing.T) {
	for _, c := range edgeCells {
		expect(t, true, "a cell", treeOf(0, one(c)))
	}
	for _, c := range wrongCells {
		expect(t, false, "no cell", treeOf(0, one(c)))
		expect(t, false, "no cell, in a row", treeOf(0, one('a'), one(c), row(0, 1)))
	}
}

func TestSet(t *testing.T) {
	for _, not := range []bool{false, true} {
		tell := func(is bool, why string, ranges []api.Range, texts ...[]api.Cell) {
			t.Helper()
			expect(t, is, why, treeOf(0, set(api.Bracket{Not: not, Ranges: ranges, Texts: texts})))
		}
		tell(true, "nothing", nil)
		for _, low := range edgeCells {
			for _, high := range edgeCells {
				tell(low <= high, "a range", []api.Range{span(low, high)})
				tell(low <= high, "a second range", []api.Range{span('a', 'c'), span(low, high)})
			}
			for _, wrong := range wrongCells {
				tell(false, "a range of no cell", []api.Range{span(low, wrong)})
				tell(false, "a range of no cell", []api.Range{span(wrong, low)})
				tell(false, "a text of no cell", nil, []api.Cell{low, wrong})
				tell(false, "a text of no cell", nil, []api.Cell{wrong, low, low})
				tell(false, "a second text of no cell", nil, []api.Cell{low, low}, []api.Cell{low, low, low, wrong})
			}
		}
		for _, wrong := range wrongCells {
			tell(false, "a range of two that are no cells", []api.Range{span(wrong, wrong)})
		}
		tell(true, "ranges that are alike, and not in order", []api.Range{span('c', 'd'), span('a', 'z'), span('c', 'd'), span(-256, 0x10ffff)})
		for n := range 7 {
			l := make([]api.Cell, n)
			tell(n >= 2 && n <= 4, "a text", nil, l)
			tell(n >= 2 && n <= 4, "a second text", []api.Range{span('a', 'a')}, []api.Cell{'a', -1}, l)
			tell(n >= 2 && n <= 4, "a first text", nil, l, []api.Cell{'a', -1})
		}
		tell(true, "texts that are alike", nil, []api.Cell{'a', 'b'}, []api.Cell{'a', 'b'}, []api.Cell{'b', 'b', 'b', 'b'})
	}
}

func TestBack(t *testing.T) {
	for groups := range 10 {
		var numbers []int
		for n := range groups {
			numbers = append(numbers, n+1)
		}
		for _, n := range []int{math.MinInt, -1, 0, 1, 2, groups - 1, groups, groups + 1, 9, 10, math.MaxInt} {
			x := manyGroups(groups, numbers...)
			at := len(x.Nodes)
			x.Nodes = append(x.Nodes, back(n), row(at-1, at))
			expect(t, n >= 1 && n <= groups, "a number of a group", x)
		}
	}
	// Where it stands is not asked: within its group, or ahead of it.
	expect(t, true, "within its group", treeOf(1, back(1), group(1, 0)))
	expect(t, true, "ahead of its group", treeOf(1, back(1), one('a'), group(1, 1), row(0, 2)))
	expect(t, false, "of a group that is not there", treeOf(1, back(1)))
	expect(t, false, "of no group", treeOf(0, back(0)))
}

// Group and Times have one kid, Row and Either two or more.
func TestNumberOfKids(t *testing.T) {
	for n := range 8 {
		for _, last := range []api.Node{group(1, 0), times(0, 0, -1), row(), either()} {
			x, groups := api.Tree{}, 0
			last.Kids = nil
			for at := range n {
				x.Nodes = append(x.Nodes, one('a'))
				last.Kids = append(last.Kids, at)
			}
			if last.Kind == api.Group {
				groups = 1
			}
			x.Nodes, x.Groups = append(x.Nodes, last), groups
			alone := last.Kind == api.Group || last.Kind == api.Times
			expect(t, alone && n == 1 || !alone && n >= 2, "so many kids", x)
		}
	}
}

func TestTimes(t *testing.T) {
	edges := []int{math.MinInt, -257, -256, -2, -1, 0, 1, 2, 3, 127, 128, 254, 255, 256, 257, 65536, math.MaxInt}
	for _, least := range edges {
		for _, most := range edges {
			is := least >= 0 && least <= 255 && (most == -1 || most >= least && most <= 255)
			expect(t, is, "so many times", treeOf(0, one('a'), times(0, least, most)))
			expect(t, false, "no kid", treeOf(0, times(0, least, most)))
		}
	}
}

// What may be beside nodes that are right may not make a wrong one right: each node is asked, wherever it stands.
func TestOneWrongNode(t *testing.T) {
	r := rand.New(rand.NewSource(11))
	for range 300 {
		right := someTree(r)
		expect(t, true, "some tree", right)
		for at := range right.Nodes {
			x := copied(right)
			x.Nodes[at].Kind = 12
			expect(t, false, "one node of no kind", x)
			x = copied(right)
			x.Nodes[at].Cell = -257
			expect(t, false, "one node with no cell", x)
		}
	}
}

func TestAnyChange(t *testing.T) {
	r := rand.New(rand.NewSource(12))
	told := map[bool]int{}
	for range 20000 {
		x := copied(someTree(r))
		for range 1 + r.Intn(2) {
			changes[r.Intn(len(changes))](r, &x.Nodes[r.Intn(len(x.Nodes))])
		}
		if r.Intn(20) == 0 {
			x.Groups += r.Intn(3) - 1
		}
		is := mayBe(x)
		told[is]++
		expect(t, is, "some tree, changed", x)
	}
	if told[true] < 1000 || told[false] < 10000 {
		t.Errorf("too few of one sort: %v", told)
	}
}

// nodesOf are all nodes of few cells, numbers and kids: what stands at a place.
func nodesOf(at int) []api.Node {
	l := []api.Node{one('a'), one(-257), kind(api.Empty), kind(0), back(1), {Kind: api.Any, Cell: 1}}
	for kid := -1; kid <= at; kid++ {
		l = append(l, group(1, kid), times(kid, 0, -1))
		for other := -1; other <= at; other++ {
			l = append(l, row(kid, other))
		}
	}
	return l
}

// All small trees of a few nodes.
func TestAllSmallTrees(t *testing.T) {
	for groups := -1; groups <= 2; groups++ {
		for _, first := range nodesOf(0) {
			expect(t, mayBe(treeOf(groups, first)), "one node", treeOf(groups, first))
			for _, second := range nodesOf(1) {
				expect(t, mayBe(treeOf(groups, first, second)), "two nodes", treeOf(groups, first, second))
				for _, third := range nodesOf(2) {
					expect(t, mayBe(treeOf(groups, first, second, third)), "three nodes", treeOf(groups, first, second, third))
				}
			}
		}
	}
}
