package tree_test

import (
	"fmt"
	"math/rand"
	"slices"

	"redactor/api"
	"redactor/cell"
)

func one(c api.Cell) api.Node { return api.Node{Kind: api.One, Cell: c} }

func kind(k uint8) api.Node { return api.Node{Kind: k} }

func set(s api.Bracket) api.Node { return api.Node{Kind: api.Set, Set: s} }

func back(n int) api.Node { return api.Node{Kind: api.Back, N: n} }

func group(n, kid int) api.Node { return api.Node{Kind: api.Group, N: n, Kids: []int{kid}} }

func row(kids ...int) api.Node { return api.Node{Kind: api.Row, Kids: kids} }

func either(kids ...int) api.Node { return api.Node{Kind: api.Either, Kids: kids} }

func times(kid, least, most int) api.Node {
	return api.Node{Kind: api.Times, Min: least, Max: most, Kids: []int{kid}}
}

func treeOf(groups int, nodes ...api.Node) api.Tree { return api.Tree{Nodes: nodes, Groups: groups} }

func span(low, high api.Cell) api.Range { return api.Range{Low: low, High: high} }

// sameNode says whether two nodes are the same thing; no list and an empty one are.
func sameNode(a, b api.Node) bool {
	return a.Kind == b.Kind && a.Cell == b.Cell && a.N == b.N && a.Min == b.Min && a.Max == b.Max &&
		slices.Equal(a.Kids, b.Kids) && a.Set.Not == b.Set.Not && slices.Equal(a.Set.Ranges, b.Set.Ranges) &&
		slices.EqualFunc(a.Set.Texts, b.Set.Texts, slices.Equal)
}

func equal(a, b api.Tree) bool {
	return a.Groups == b.Groups && slices.EqualFunc(a.Nodes, b.Nodes, sameNode)
}

// copied is a tree in memory of its own.
func copied(t api.Tree) api.Tree {
	t.Nodes = slices.Clone(t.Nodes)
	for i := range t.Nodes {
		n := &t.Nodes[i]
		n.Kids, n.Set.Ranges, n.Set.Texts = slices.Clone(n.Kids), slices.Clone(n.Set.Ranges), slices.Clone(n.Set.Texts)
		for j := range n.Set.Texts {
			n.Set.Texts[j] = slices.Clone(n.Set.Texts[j])
		}
	}
	return t
}

func isCell(c api.Cell) bool { return c >= -256 && c <= 0x10ffff && !(c >= 0xd800 && c <= 0xdfff) }

// has says whether a node is what its kind asks for: it must be the one that has its own fields alone.
func has(n api.Node, groups int) bool {
	var own api.Node
	is := true
	switch n.Kind {
	case 1:
		own, is = api.Node{Cell: n.Cell}, isCell(n.Cell)
	case 2, 4, 5, 11:
	case 3:
		own.Set = n.Set
		for _, r := range n.Set.Ranges {
			is = is && isCell(r.Low) && isCell(r.High) && r.High >= r.Low
		}
		for _, l := range n.Set.Texts {
			is = is && len(l) >= 2 && len(l) <= 4
			for _, c := range l {
				is = is && isCell(c)
			}
		}
	case 6:
		own, is = api.Node{N: n.N}, 1 <= n.N && n.N <= groups
	case 7:
		own, is = api.Node{N: n.N, Kids: n.Kids}, 1 <= n.N && n.N <= groups && len(n.Kids) == 1
	case 8, 9:
		own, is = api.Node{Kids: n.Kids}, len(n.Kids) >= 2
	case 10:
		own = api.Node{Min: n.Min, Max: n.Max, Kids: n.Kids}
		is = len(n.Kids) == 1 && 0 <= n.Min && n.Min <= 255 && (n.Max == -1 || n.Min <= n.Max && n.Max <= 255)
	default:
		return false
	}
	own.Kind = n.Kind
	return is && sameNode(n, own)
}

// mayBe says what Right has to say: all nodes first, then how often each is a kid, then the groups' numbers.
func mayBe(t api.Tree) bool {
	if len(t.Nodes) == 0 || len(t.Nodes) > 200 || t.Groups < 0 || t.Groups > 9 {
		return false
	}
	kidOf := make([]int, len(t.Nodes))
	var numbers []int
	for at, n := range t.Nodes {
		if !has(n, t.Groups) {
			return false
		}
		for _, kid := range n.Kids {
			if kid < 0 || kid >= at {
				return false
			}
			kidOf[kid]++
		}
		if n.Kind == 7 {
			numbers = append(numbers, n.N)
		}
	}
	for at, often := range kidOf {
		if last := at == len(kidOf)-1; last && often != 0 || !last && often != 1 {
			return false
		}
	}
	slices.Sort(numbers)
	for i, n := range numbers {
		if n != i+1 {
			return false
		}
	}
	return len(numbers) == t.Groups
}

// shown is what Print has to tell of the node at a place.
func shown(t api.Tree, at int) string {
	n := t.Nodes[at]
	var kids []string
	for _, kid := range n.Kids {
		kids = append(kids, shown(t, kid))
	}
	text := func(l ...api.Cell) string { return cell.Text(l) }
	switch n.Kind {
	case 1:
		return "'" + text(n.Cell)
	case 3:
		s := map[bool]string{true: "[^", false: "["}[n.Set.Not]
		for _, r := range n.Set.Ranges {
			s += text(r.Low) + "-" + text(r.High) + " "
		}
		for _, l := range n.Set.Texts {
			s += "=" + text(l...) + " "
		}
		return s + "]"
	case 6:
		return fmt.Sprintf("#%d", n.N)
	case 7:
		return fmt.Sprintf("(%d:%s)", n.N, kids[0])
	case 8, 9:
		s := kids[0]
		for _, kid := range kids[1:] {
			s += map[uint8]string{8: "", 9: "|"}[n.Kind] + kid
		}
		return map[uint8]string{8: s, 9: "{" + s + "}"}[n.Kind]
	case 10:
		return fmt.Sprintf("%s*%d,%d", kids[0], n.Min, n.Max)
	}
	return map[uint8]string{2: ".", 4: "^", 5: "$", 11: "()"}[n.Kind]
}

// edgeCells are cells at the edges; wrongCells are numbers that are none.
var (
	edgeCells  = []api.Cell{0, 1, '\n', ' ', '\'', '\\', 'a', '~', 0x7f, 0xe9, 0xd7ff, 0xe000, 0xfffd, 0x10000, 0x10ffff, -1, -98, -256}
	wrongCells = []api.Cell{-257, -1 << 31, 0xd800, 0xdc00, 0xdfff, 0x110000, 1<<31 - 1}
)

func someCell(r *rand.Rand) api.Cell { return edgeCells[r.Intn(len(edgeCells))] }

// someSet is a set that is right.
func someSet(r *rand.Rand) api.Bracket {
	s := api.Bracket{Not: r.Intn(2) == 0}
	for range r.Intn(4) {
		low, high := someCell(r), someCell(r)
		s.Ranges = append(s.Ranges, span(min(low, high), max(low, high)))
	}
	for range r.Intn(3) {
		l := []api.Cell{someCell(r), someCell(r), someCell(r), someCell(r)}
		s.Texts = append(s.Texts, l[:2+r.Intn(3)])
	}
	return s
}

// someLeaf is a node that is right without kids, of a tree with so many groups.
func someLeaf(r *rand.Rand, groups int) api.Node {
	if groups > 0 && r.Intn(4) == 0 {
		return back(1 + r.Intn(groups))
	}
	return []api.Node{one(someCell(r)), kind(api.Any), kind(api.Begin), kind(api.End), kind(api.Empty), set(someSet(r))}[r.Intn(6)]
}

// someTree is a tree that is right: nodes that are no one's kids are taken in any order, till one is left.
func someTree(r *rand.Rand) api.Tree {
	t := api.Tree{Groups: r.Intn(api.MaxGroups + 1)}
	numbers := r.Perm(t.Groups)
	var open []int
	lay := func(n api.Node) {
		open = append(open, len(t.Nodes))
		t.Nodes = append(t.Nodes, n)
	}
	take := func() int {
		i := r.Intn(len(open))
		at := open[i]
		open = slices.Delete(open, i, i+1)
		return at
	}
	for range 1 + r.Intn(20) {
		lay(someLeaf(r, t.Groups))
	}
	for len(open) > 1 || len(numbers) > 0 {
		switch n := r.Intn(4); {
		case n == 0 && len(numbers) > 0:
			lay(group(1+numbers[0], take()))
			numbers = numbers[1:]
		case n == 1 && len(t.Nodes) < 100:
			least := r.Intn(256)
			lay(times(take(), least, []int{-1, least, least + r.Intn(256-least), 255}[r.Intn(4)]))
		case n > 1 && len(open) > 1:
			kids := []int{take(), take()}
			for range r.Intn(3) {
				if len(open) > 0 {
					kids = append(kids, take())
				}
			}
			lay([]api.Node{row(kids...), either(kids...)}[n-2])
		}
	}
	return t
}

// changes are ways in which a node may be made another one; most make it wrong, some do not.
var changes = []func(r *rand.Rand, n *api.Node){
	func(r *rand.Rand, n *api.Node) { n.Kind = uint8(r.Intn(13)) },
	func(r *rand.Rand, n *api.Node) {
		n.Cell = slices.Concat(edgeCells, wrongCells)[r.Intn(len(edgeCells)+len(wrongCells))]
	},
	func(r *rand.Rand, n *api.Node) { n.N = r.Intn(12) - 1 },
	func(r *rand.Rand, n *api.Node) { n.Min = []int{-1, 0, 1, 3, 254, 255, 256}[r.Intn(7)] },
	func(r *rand.Rand, n *api.Node) { n.Max = []int{-2, -1, 0, 1, 3, 254, 255, 256}[r.Intn(8)] },
	func(r *rand.Rand, n *api.Node) { n.Set = someSet(r) },
	func(r *rand.Rand, n *api.Node) {
		n.Set.Ranges = append(n.Set.Ranges, span(someCell(r), wrongCells[r.Intn(len(wrongCells))]))
	},
	func(r *rand.Rand, n *api.Node) { n.Set.Ranges = append(n.Set.Ranges, span(someCell(r), someCell(r))) },
	func(r *rand.Rand, n *api.Node) { n.Set.Texts = append(n.Set.Texts, make([]api.Cell, r.Intn(6))) },
	func(r *rand.Rand, n *api.Node) {
		n.Set.Texts = append(n.Set.Texts, []api.Cell{'a', wrongCells[r.Intn(len(wrongCells))]})
	},
	func(r *rand.Rand, n *api.Node) { n.Kids = append(n.Kids, r.Intn(24)-1) },
	func(r *rand.Rand, n *api.Node) {
		if len(n.Kids) > 0 {
			n.Kids = n.Kids[1:]
		}
	},
	func(r *rand.Rand, n *api.Node) {
		if len(n.Kids) > 0 {
			n.Kids[r.Intn(len(n.Kids))] = r.Intn(24) - 1
		}
	},
	func(r *rand.Rand, n *api.Node) { slices.Reverse(n.Kids) },
	func(r *rand.Rand, n *api.Node) { *n = someLeaf(r, 9) },
}
