package tree_test

import (
	"math"
	"math/rand"
	"slices"
	"strconv"
	"testing"

	"redactor/api"
	"redactor/cell"
	"redactor/tree"
)

func TestExample(t *testing.T) {
	b := tree.New()
	b.Times(b.Leaf(api.Node{Kind: api.One, Cell: 'a'}), 0, -1)
	if s := tree.Print(b.Tree()); s != "'a*0,-1" {
		t.Errorf("Print = %q", s)
	}
}

func TestPrint(t *testing.T) {
	a, b := one('a'), one('b')
	for want, x := range map[string]api.Tree{
		"'a":                                    treeOf(0, a),
		`'\\`:                                   treeOf(0, one('\\')),
		`'\n`:                                   treeOf(0, one('\n')),
		`'\u{0}`:                                treeOf(0, one(0)),
		`'\u{e9}`:                               treeOf(0, one(0xe9)),
		`'\u{10ffff}`:                           treeOf(0, one(0x10ffff)),
		`'\xff`:                                 treeOf(0, one(-256)),
		`'\x00`:                                 treeOf(0, one(-1)),
		"''":                                    treeOf(0, one('\'')),
		".":                                     treeOf(0, kind(api.Any)),
		"^":                                     treeOf(0, kind(api.Begin)),
		"$":                                     treeOf(0, kind(api.End)),
		"()":                                    treeOf(0, kind(api.Empty)),
		"[]":                                    treeOf(0, set(api.Bracket{})),
		"[^]":                                   treeOf(0, set(api.Bracket{Not: true})),
		"[a-c ]":                                treeOf(0, set(api.Bracket{Ranges: []api.Range{span('a', 'c')}})),
		"[a-a ]":                                treeOf(0, set(api.Bracket{Ranges: []api.Range{span('a', 'a')}})),
		`[^x-z --\\ \xff-\u{d7ff} \n-\n ]`:      treeOf(0, set(api.Bracket{Not: true, Ranges: []api.Range{span('x', 'z'), span('-', '\\'), span(-256, 0xd7ff), span('\n', '\n')}})),
		"[=ch ]":                                treeOf(0, set(api.Bracket{Texts: [][]api.Cell{cell.Of("ch")}})),
		`[^=ch =abcd =\u{e9}\xff\n ]`:           treeOf(0, set(api.Bracket{Not: true, Texts: [][]api.Cell{cell.Of("ch"), cell.Of("abcd"), cell.Of("é\xff\n")}})),
		"[a-c c-c =ch =a  ]":                    treeOf(0, set(api.Bracket{Ranges: []api.Range{span('a', 'c'), span('c', 'c')}, Texts: [][]api.Cell{cell.Of("ch"), cell.Of("a ")}})),
		"(1:'a)":                                treeOf(1, a, group(1, 0)),
		"(2:(1:'a))":                            treeOf(2, a, group(1, 0), group(2, 1)),
		"(1:())":                                treeOf(1, kind(api.Empty), group(1, 0)),
		"(1:'a)#1":                              treeOf(1, a, group(1, 0), back(1), row(1, 2)),
		"#1(1:'a)":                              treeOf(1, a, group(1, 0), back(1), row(2, 1)),
		"'a'b":                                  treeOf(0, a, b, row(0, 1)),
		"'b'a":                                  treeOf(0, a, b, row(1, 0)),
		"'a'b.'a":                               treeOf(0, a, b, kind(api.Any), a, row(0, 1, 2, 3)),
		"{'a|'b}":                               treeOf(0, a, b, either(0, 1)),
		"{'b|'a}":                               treeOf(0, a, b, either(1, 0)),
		"{'a|'b|()}":                            treeOf(0, a, b, kind(api.Empty), either(0, 1, 2)),
		"{'a'b|{'a|'b}}":                        treeOf(0, a, b, row(0, 1), a, b, either(3, 4), either(2, 5)),
		"{'a|'b}'a":                             treeOf(0, a, b, either(0, 1), a, row(2, 3)),
		"'a*0,-1":                               treeOf(0, a, times(0, 0, -1)),
		"'a*0,0":                                treeOf(0, a, times(0, 0, 0)),
		"'a*255,255":                            treeOf(0, a, times(0, 255, 255)),
		"'a*3,17*2,-1":                          treeOf(0, a, times(0, 3, 17), times(1, 2, -1)),
		"'a'b*0,1":                              treeOf(0, a, b, row(0, 1), times(2, 0, 1)),
		"'a(1:'b*0,-1)":                         treeOf(1, a, b, times(1, 0, -1), group(1, 2), row(0, 3)),
		"{'a|(1:'b*1,-1)}":                      treeOf(1, a, b, times(1, 1, -1), group(1, 2), either(0, 3)),
		"^(1:[^a-z ]*2,9)$":                     treeOf(1, kind(api.Begin), set(api.Bracket{Not: true, Ranges: []api.Range{span('a', 'z')}}), times(1, 2, 9), group(1, 2), kind(api.End), row(0, 3, 4)),
		"#1#2(2:'a)(1:'b)":                      treeOf(2, a, group(2, 0), b, group(1, 2), back(1), back(2), row(4, 5, 1, 3)),
		"(9:(8:(7:(6:(5:(4:(3:(2:(1:.)))))))))": manyGroups(9, 1, 2, 3, 4, 5, 6, 7, 8, 9),
	} {
		if got := tree.Print(x); got != want {
			t.Errorf("Print = %q, want %q", got, want)
		}
		expect(t, true, want, x)
	}
}

// Each cell is shown as cell.Text shows it, alone and in a set.
func TestPrintCells(t *testing.T) {
	for c := api.Cell(-256); c < 0x3000; c++ {
		text := cell.Text([]api.Cell{c})
		s := set(api.Bracket{Ranges: []api.Range{span(c, c)}, Texts: [][]api.Cell{{c, c}}})
		want := "'" + text + "[" + text + "-" + text + " =" + text + text + " ]"
		if got := tree.Print(treeOf(0, one(c), s, row(0, 1))); got != want {
			t.Fatalf("Print = %q, want %q", got, want)
		}
	}
}

func TestPrintNumbers(t *testing.T) {
	for least := range 256 {
		for most := -1; most < 256; most++ {
			if most >= 0 && most < least {
				continue
			}
			x := treeOf(0, one('a'), times(0, least, most))
			want := "'a*" + strconv.Itoa(least) + "," + strconv.Itoa(most)
			if got := tree.Print(x); got != want {
				t.Fatalf("Print = %q, want %q", got, want)
			}
		}
	}
}

func TestPrintOfAnyTree(t *testing.T) {
	r := rand.New(rand.NewSource(13))
	for range 3000 {
		expect(t, true, "some tree", someTree(r))
	}
}

// building is a builder, and what it has to have laid.
type building struct {
	*testing.T
	*tree.Builder
	want api.Tree
}

func build(t *testing.T) *building {
	t.Helper()
	b := tree.New()
	if b == nil {
		t.Fatal("New is nil")
	}
	return &building{T: t, Builder: b}
}

// laid says whether a call told the place of a node that was laid behind all others.
func (b *building) laid(call string, place int, n api.Node) int {
	b.Helper()
	if place != len(b.want.Nodes) {
		b.Fatalf("%s tells %d, want %d", call, place, len(b.want.Nodes))
	}
	b.want.Nodes = append(b.want.Nodes, n)
	if n.Kind == 7 {
		b.want.Groups++
	}
	return place
}

func (b *building) leaf(n api.Node) int { return b.laid("Leaf", b.Leaf(n), n) }

func (b *building) group(n, kid int) int { return b.laid("Group", b.Group(n, kid), group(n, kid)) }

func (b *building) times(kid, least, most int) int {
	return b.laid("Times", b.Times(kid, least, most), times(kid, least, most))
}

// join asks Row or Either, of any number of kids.
func (b *building) join(call string, kids ...int) int {
	b.Helper()
	ask, n := b.Row, row(kids...)
	if call == "Either" {
		ask, n = b.Either, either(kids...)
	}
	place := ask(kids...)
	switch len(kids) {
	case 0:
		return b.laid(call, place, kind(11))
	case 1:
		if place != kids[0] {
			b.Fatalf("%s of %d alone tells %d", call, kids[0], place)
		}
		return place
	}
	return b.laid(call, place, n)
}

// check says whether all was laid that was asked for, and no more.
func (b *building) check() {
	b.Helper()
	if got := b.Tree(); !equal(got, b.want) {
		b.Fatalf("Tree() = %v, want %v", got, b.want)
	}
}

func TestNew(t *testing.T) {
	b := build(t)
	b.check()
	if x := b.Tree(); len(x.Nodes) != 0 || x.Groups != 0 || tree.Right(x) || tree.Print(x) != "" {
		t.Errorf("Tree() = %v of nothing", x)
	}
	// Asking for the tree lays nothing.
	b.leaf(one('a'))
	b.check()
	b.check()
}

func TestLeaf(t *testing.T) {
	b := build(t)
	for _, c := range slices.Concat(edgeCells, wrongCells) {
		b.leaf(one(c))
		b.check()
	}
	full := api.Node{Kind: 3, Cell: -7, N: -1, Min: 7, Max: math.MinInt, Kids: []int{-1, 3, 3},
		Set: api.Bracket{Not: true, Ranges: []api.Range{span(9, 1), span(0xd800, -300)}, Texts: [][]api.Cell{nil, {'a'}, {'a', 'b', 'c', 'd', 'e'}}}}
	for k := range 256 {
		b.leaf(kind(uint8(k)))
		full.Kind = uint8(k)
		b.leaf(full)
		b.check()
	}
}

func TestBuilder(t *testing.T) {
	b := build(t)
	a, c := b.leaf(one('a')), b.leaf(one('b'))
	b.check()
	g := b.group(1, b.times(c, 0, -1))
	b.check()
	top := b.join("Row", a, g)
	b.check()
	if s := tree.Print(b.Tree()); s != "'a(1:'b*0,-1)" {
		t.Errorf("Print = %q", s)
	}
	b.join("Either", top, b.join("Either"), b.group(2, b.join("Row")), b.join("Row", b.leaf(back(2)), b.leaf(kind(api.Any)), b.leaf(kind(api.End))))
	b.check()
	if s := tree.Print(b.Tree()); s != "{'a(1:'b*0,-1)|()|(2:())|#2.$}" || b.Tree().Groups != 2 {
		t.Errorf("Print = %q", s)
	}
}

// Row and Either of one kid lay nothing, and tell it, whatever it is; of none they lay Empty.
func TestFewKids(t *testing.T) {
	for _, call := range []string{"Row", "Either"} {
		b := build(t)
		for _, kid := range []int{0, -1, 7, math.MaxInt, math.MinInt} {
			b.join(call, kid)
			b.check()
		}
		b.join(call)
		b.check()
		b.join(call, []int{}...)
		b.join(call, []int(nil)...)
		b.join(call, 0)
		b.join(call, 2)
		b.check()
		b.join(call, 0, 1)
		b.join(call, 1, 0)
		b.join(call, 2, 0, 1)
		b.join(call, 3)
		b.check()
		if x := b.Tree(); len(x.Nodes) != 6 || x.Nodes[0].Kind != api.Empty || len(x.Nodes[5].Kids) != 3 {
			t.Errorf("of %s there is %v", call, x)
		}
	}
}

// Nothing is checked: numbers and kids are as they are told.
func TestNothingIsChecked(t *testing.T) {
	b := build(t)
	edges := []int{math.MinInt, -2, -1, 0, 1, 9, 10, 255, 256, math.MaxInt}
	for _, n := range edges {
		for _, m := range edges {
			b.group(n, m)
			b.times(0, n, m)
			b.times(n, m, 0)
			b.join("Row", n, m)
			b.join("Either", n, m, n)
		}
	}
	b.check()
	if n := b.Tree().Groups; n != len(edges)*len(edges) {
		t.Errorf("%d groups, want %d", n, len(edges)*len(edges))
	}
	for range 300 {
		b.leaf(one('a'))
	}
	b.check()
}

// Groups are how many were laid, whatever their numbers are, and by whatever call.
func TestGroups(t *testing.T) {
	b := build(t)
	for n := range 20 {
		if got := b.Tree().Groups; got != n {
			t.Errorf("%d groups, want %d", got, n)
		}
		b.group([]int{7, 7, -1, 0}[n%4], b.leaf(back(9)))
		b.check()
	}
	b.leaf(group(3, 0))
	if got := b.Tree().Groups; got != 21 {
		t.Errorf("%d groups, want 21", got)
	}
	b.check()
}

// laidAs lays what a tree has, node by node, by the calls of its kinds.
func laidAs(b *building, x api.Tree) {
	for _, n := range x.Nodes {
		switch n.Kind {
		case api.Group:
			b.group(n.N, n.Kids[0])
		case api.Times:
			b.times(n.Kids[0], n.Min, n.Max)
		case api.Row:
			b.join("Row", n.Kids...)
		case api.Either:
			b.join("Either", n.Kids...)
		default:
			b.leaf(n)
		}
	}
}

// What is built of right parts is right.
func TestBuiltOfRightParts(t *testing.T) {
	r := rand.New(rand.NewSource(14))
	for range 2000 {
		want := someTree(r)
		b := build(t)
		laidAs(b, want)
		b.check()
		got := b.Tree()
		if !equal(got, want) {
			t.Fatalf("built is %v, want %v", got, want)
		}
		expect(t, true, "built of right parts", got)
	}
}

// whole builds some part of a tree: so many levels of it, and groups with the numbers from next on; its place.
func whole(r *rand.Rand, b *building, levels int, next *int) int {
	part := func() int { return whole(r, b, levels-1, next) }
	if levels == 0 {
		return b.leaf(someLeaf(r, *next-1))
	}
	switch r.Intn(5) {
	case 0:
		if *next <= api.MaxGroups {
			n := *next
			*next++
			return b.group(n, part())
		}
		return part()
	case 1:
		least := r.Intn(256)
		return b.times(part(), least, least+r.Intn(256-least))
	case 2:
		return b.times(part(), r.Intn(256), -1)
	}
	var kids []int
	for range r.Intn(4) {
		kids = append(kids, part())
	}
	return b.join([]string{"Row", "Either"}[r.Intn(2)], kids...)
}

// So it is where Row and Either are told of no kid, or of one.
func TestBuiltOfAnyKids(t *testing.T) {
	r := rand.New(rand.NewSource(15))
	most := 0
	for range 5000 {
		b, next := build(t), 1
		whole(r, b, r.Intn(12), &next)
		b.check()
		x := b.Tree()
		most = max(most, len(x.Nodes))
		expect(t, len(x.Nodes) <= api.MaxNodes, "built of right parts", x)
	}
	if most <= api.MaxNodes {
		t.Errorf("at most %d nodes: too few to tell anything", most)
	}
}
