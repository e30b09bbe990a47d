package bre_test

import (
	"go/parser"
	"go/token"
	"math/rand"
	"os"
	"slices"
	"strconv"
	"strings"
	"sync"
	"testing"

	"redactor/api"
	"redactor/bre"
	"redactor/cell"
	"redactor/collate"
	"redactor/locale"
	"redactor/tree"
)

// What the call is, as the chapter lists it: another signature would not compile.
var _ func([]api.Cell, *collate.Table) (api.Tree, api.Errno, int) = bre.Parse

// The numbers that the layer stands on, as the document has them.
func TestNumbersOfTheDocument(t *testing.T) {
	if api.OK != 0 || api.ErrLong != 3 || api.ErrForm != 30 || api.ErrName != 31 || api.ErrRange != 40 || api.ErrParen != 41 || api.ErrTimes != 42 || api.ErrRef != 43 {
		t.Error("an error has another number")
	}
	if api.MaxPattern != 200 || api.MaxNodes != 200 || api.MaxGroups != 9 || api.MaxDeep != 40 || api.MaxTimes != 255 {
		t.Error("a limit has another number")
	}
}

// wholePattern has something of each kind that a pattern may have.
const wholePattern = `^a*\(b.\(c\)\{2,3\}\)\1[^]x][[.ch.][=c=]]\n\2\(\)$`

const wholeShown = `^'a*0,-1(1:'b.(2:'c)*2,3)#1[^]-] x-x ][c-c =ch =ch ]'\n#2(3:())$`

// R1, R7: with an error there is no part of a tree, whatever was read ahead of it; without one no place of an error.
func TestErrorHasNothing(t *testing.T) {
	a := askWhole(t)
	for wrong, want := range map[string]api.Errno{`\`: 30, `\x`: 30, `[`: 30, `[[:none:]]`: 31, `[[.x`: 30, `[c-a]`: 40, `\(`: 41, `\)`: 41, `\}`: 42, `a\{`: 42, `a\{2,1\}`: 42, `\9`: 43, strings.Repeat(`\(\)`, 9): 3, strings.Repeat("a", 200): 3} {
		text := wholePattern + wrong
		x, e, at := bre.Parse(cell.Of(text), a.table)
		if x.Nodes != nil || x.Groups != 0 || e != want || (at == 0) != (len(text) > 200) {
			t.Errorf("Parse(%s) = %v, %d, %d", text, x, e, at)
		}
	}
	if x, e, at := bre.Parse(cell.Of(strings.Repeat("a", 200)), a.table); x.Nodes != nil || x.Groups != 0 || e != api.ErrLong || at != 0 {
		t.Errorf("of too many nodes: %v, %d, %d", x, e, at)
	}
	if x, e, at := bre.Parse(cell.Of(wholePattern), a.table); tree.Print(x) != wholeShown || x.Groups != 3 || e != api.OK || at != 0 {
		t.Errorf("%s, %d, %d", tree.Print(x), e, at)
	}
}

// R7: each kind of node has what the chapter of trees names for it, and no more; Right asks for just that.
func TestNodesHaveNothingElse(t *testing.T) {
	a := askWhole(t)
	x, _, _ := bre.Parse(cell.Of(wholePattern), a.table)
	if !tree.Right(x) {
		t.Fatalf("%v", x)
	}
	seen := map[uint8]bool{}
	for _, n := range x.Nodes {
		seen[n.Kind] = true
	}
	if len(seen) != 10 || seen[api.Either] {
		t.Errorf("kinds %v", seen)
	}
}

// R1: of several errors it is the one that is met first as cells are read; that all end is met last.
func TestFirstError(t *testing.T) {
	a := askPlain(t)
	wrong := map[string]api.Errno{`\x`: 30, `[[:none:]]`: 31, `[[.none.]]`: 31, `[c-a]`: 40, `\}`: 42, `a\{x`: 42, `a\{3,1\}`: 42, `\1`: 43, `\9`: 43, `[[..]]`: 30, `[[:digit:x]`: 30}
	for one, want := range wrong {
		for other := range wrong {
			// A sign of one kind within what is not ended would end it.
			if strings.HasPrefix(one, "[[:digit:x") && strings.Contains(other, ":") {
				continue
			}
			for _, ahead := range []string{"", `\(`, `\(\(`, "b*"} {
				text := ahead + one + other
				if _, e, at := bre.Parse(cell.Of(text), a.table); e != want || e != api.ErrForm && at > len(ahead)+2 {
					t.Errorf("Parse(%s): %d at %d, want %d", text, e, at, want)
				}
				a.expect(cell.Of(text))
			}
		}
		// No end of a group is met behind all that is wrong.
		if _, e, _ := bre.Parse(cell.Of(one+`\)`), a.table); e != want {
			t.Errorf("Parse(%s): %d, want %d", one+`\)`, e, want)
		}
		if _, e, at := bre.Parse(cell.Of(`a\)`+one), a.table); e != api.ErrParen || at != 1 {
			t.Errorf("Parse(%s): %d, %d", `a\)`+one, e, at)
		}
	}
	// At the end itself, what was begun last is told.
	for text, want := range map[string]struct {
		err api.Errno
		at  int
	}{`\(\`: {30, 2}, `\([`: {30, 3}, `\(a\{`: {42, 3}, `\(a\{1`: {42, 3}, `\([[:a`: {30, 6}, `\(\(a`: {41, 2}} {
		if _, e, at := bre.Parse(cell.Of(text), a.table); e != want.err || at != want.at {
			t.Errorf("Parse(%s): %d, %d, want %d, %d", text, e, at, want.err, want.at)
		}
	}
}

// copied is a tree in memory of its own.
func copied(x api.Tree) api.Tree {
	x.Nodes = slices.Clone(x.Nodes)
	for i := range x.Nodes {
		n := &x.Nodes[i]
		n.Kids, n.Set.Ranges, n.Set.Texts = slices.Clone(n.Kids), slices.Clone(n.Set.Ranges), slices.Clone(n.Set.Texts)
		for k := range n.Set.Texts {
			n.Set.Texts[k] = slices.Clone(n.Set.Texts[k])
		}
	}
	return x
}

// R2: what is handed in stays as it is.
func TestHandedInStays(t *testing.T) {
	a := askWhole(t)
	r := rand.New(rand.NewSource(33))
	for range 2000 {
		l := someText(r)
		before := slices.Clone(l)
		bre.Parse(l, a.table)
		if !slices.Equal(l, before) {
			t.Fatalf("now %v, before %v", l, before)
		}
	}
	if x, _, _ := bre.Parse(cell.Of(wholePattern), a.table); tree.Print(x) != wholeShown {
		t.Errorf("the table changed: %s", tree.Print(x))
	}
}

func fill[T any](l []T, x T) {
	l = l[:cap(l)]
	for i := range l {
		l[i] = x
	}
}

func overwrite(x api.Tree) {
	for _, n := range x.Nodes {
		for _, l := range n.Set.Texts {
			fill(l, 7)
		}
		fill(n.Set.Texts, nil)
		fill(n.Set.Ranges, api.Range{Low: 7, High: 7})
		fill(n.Kids, 7)
	}
	fill(x.Nodes, api.Node{Kind: 7})
}

// R2: cells may be written over as soon as the call is done.
func TestHandedInIsNotKept(t *testing.T) {
	a := askWhole(t)
	for text, want := range map[string]string{wholePattern: wholeShown, "a[[.ch.]]": "'a[=ch ]", "[[=ch=]]": "[c-c =ch ]", `[[.\).]]`: `[=\\) ]`} {
		l := cell.Of(text)
		x, _, _ := bre.Parse(l, a.table)
		fill(l, 7)
		if tree.Print(x) != want {
			t.Errorf("Parse(%s) is now %q", text, tree.Print(x))
		}
	}
}

// R2: what comes out is new memory, whoever writes to it or lays more behind it.
func TestComesOutNew(t *testing.T) {
	a := askWhole(t)
	l := cell.Of(wholePattern)
	for range 3 {
		one, _, _ := bre.Parse(l, a.table)
		other, _, _ := bre.Parse(l, a.table)
		overwrite(one)
		if tree.Print(other) != wholeShown || !slices.Equal(l, cell.Of(wholePattern)) {
			t.Fatalf("now %s, %s", tree.Print(other), cell.Text(l))
		}
		overwrite(other)
	}
}

// R2: no list of a tree shares memory with another one of it.
func TestListsShareNothing(t *testing.T) {
	a := askWhole(t)
	l := cell.Of(`[[.ch.]][[.ch.][.ch.]]\(ab\(c*d\)\)*[[=c=]][[:vowel:]][[:vowel:]]`)
	want, _, _ := bre.Parse(l, a.table)
	want = copied(want)
	for i := range want.Nodes {
		x, _, _ := bre.Parse(l, a.table)
		n := &x.Nodes[i]
		for _, text := range n.Set.Texts {
			fill(text, 7)
		}
		fill(n.Set.Texts, nil)
		fill(n.Set.Ranges, api.Range{Low: 7, High: 7})
		fill(n.Kids, 7)
		*n = want.Nodes[i]
		if !same(x, want) {
			t.Errorf("node %d shares memory: %s", i, tree.Print(x))
		}
	}
}

func expectNoughtsBehind[T comparable](t *testing.T, l []T) {
	t.Helper()
	var none T
	for _, x := range l[len(l):cap(l)] {
		if x != none {
			t.Errorf("%v is handed out behind %v", x, l)
		}
	}
}

// R2: what lies behind a list's length is neither read, nor written, nor handed out.
func TestBehindTheLength(t *testing.T) {
	a := askWhole(t)
	for _, text := range []string{wholePattern, `a\{12,13\}\(\)\1`, `^*\(^a$\)$\n`, `a[[.ch.]-c]]\\\.`} {
		l := cell.Of(text)
		for n := range l {
			x, e, at := bre.Parse(l[:n], a.table)
			want, wantE, wantAt := bre.Parse(slices.Clip(slices.Clone(l[:n])), a.table)
			if !same(x, want) || e != wantE || at != wantAt || at > n {
				t.Errorf("of %s, with more behind: %s, %d, %d", cell.Text(l[:n]), tree.Print(x), e, at)
			}
			a.expect(l[:n])
		}
		if !slices.Equal(l, cell.Of(text)) {
			t.Errorf("%s is written", text)
		}
		x, _, _ := bre.Parse(l, a.table)
		for _, n := range x.Nodes {
			expectNoughtsBehind(t, n.Kids)
			expectNoughtsBehind(t, n.Set.Ranges)
			for _, l := range n.Set.Texts[:cap(n.Set.Texts)] {
				expectNoughtsBehind(t, l)
			}
		}
		for _, n := range x.Nodes[len(x.Nodes):cap(x.Nodes)] {
			if n.Kind != 0 || n.Kids != nil || n.Set.Ranges != nil || n.Set.Texts != nil {
				t.Errorf("%v is handed out behind the nodes", n)
			}
		}
	}
}

// R4, T3: many may ask at once, of one table, and of several; no call changes another one's answer.
func TestManyAtOnce(t *testing.T) {
	plain, whole := askPlain(t), askWhole(t)
	r := rand.New(rand.NewSource(34))
	var texts [][]api.Cell
	var wants []string
	tell := func(a asking, l []api.Cell) string {
		x, e, at := bre.Parse(l, a.table)
		return tree.Print(x) + " " + e.Error() + " " + strconv.Itoa(at)
	}
	for range 300 {
		l := someText(r)
		texts, wants = append(texts, l), append(wants, tell(plain, l)+tell(whole, l))
	}
	var wait sync.WaitGroup
	for range 8 {
		wait.Go(func() {
			for i, l := range texts {
				if got := tell(plain, l) + tell(whole, l); got != wants[i] {
					t.Errorf("%s is now %s, before %s", cell.Text(l), got, wants[i])
				}
			}
		})
	}
	wait.Wait()
}

// R5, and that the layer stands on api, collate, tree and bracket: what it imports can neither print, nor wait, nor ask a clock.
func TestStandsOnTheLayersBelow(t *testing.T) {
	may := []string{"redactor/api", "redactor/collate", "redactor/tree", "redactor/bracket", "slices"}
	files, err := os.ReadDir(".")
	if err != nil {
		t.Fatal(err)
	}
	for _, f := range files {
		if !strings.HasSuffix(f.Name(), ".go") || strings.HasSuffix(f.Name(), "_test.go") {
			continue
		}
		file, err := parser.ParseFile(token.NewFileSet(), f.Name(), nil, parser.ImportsOnly)
		if err != nil {
			t.Fatal(err)
		}
		for _, i := range file.Imports {
			if path, _ := strconv.Unquote(i.Path.Value); !slices.Contains(may, path) {
				t.Errorf("%s imports %s", f.Name(), path)
			}
		}
	}
}

// R6: no list and an empty one are the same thing.
func TestNilIsEmpty(t *testing.T) {
	a := askPlain(t)
	l := cell.Of("ab")
	for _, none := range [][]api.Cell{nil, {}, l[:0], l[1:1], l[2:]} {
		x, e, at := bre.Parse(none, a.table)
		if tree.Print(x) != "()" || len(x.Nodes) != 1 || x.Groups != 0 || e != api.OK || at != 0 {
			t.Errorf("Parse(%v) = %v, %d, %d", none, x, e, at)
		}
		a.expect(none)
	}
}

// T5: each call ends with an answer, however much there is.
func TestManyOfAll(t *testing.T) {
	const many = 1 << 20
	a := askWhole(t)
	for _, text := range []string{"a", "*", "a*", `\(`, `\)`, `\(\)`, "[", "[a", "[[.ch.]", "]", `\{`, `a\{1\}`, `\{1\}`, `\1`, `\`, "^", "$", "\xff", ","} {
		l := cell.Of(strings.Repeat(text, many/len(text)))
		if x, e, at := bre.Parse(l, a.table); x.Nodes != nil || e != api.ErrLong || at != 0 {
			t.Errorf("Parse of many %s: %d, %d", text, e, at)
		}
		for n := 190; n <= 201; n++ {
			a.expect(l[:n])
		}
	}
}

func FuzzBre(f *testing.F) {
	f.Add("", `a\(b*\)`)
	f.Add(wholeText, wholePattern)
	f.Add(wholeText, `^*\(^**$\)\1\{1,2\}\.[[.odd.]]$*$`)
	f.Add("order <U0062>\norder <U0061>;<U0062>\nclass x <U0000>...<U10FFFF>", "[^b-a[:x:][=a=]\xff-é]*")
	f.Fuzz(func(t *testing.T, definition, text string) {
		d, e, _ := locale.Parse(definition)
		if definition == "" || e != api.OK {
			d = collate.Plain()
		}
		asking{t, collate.New(d)}.expect(cell.Of(text))
	})
}
