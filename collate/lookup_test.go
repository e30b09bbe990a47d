package collate

import (
	"slices"
	"sync"
	"testing"

	"redactor/api"
)

// made tells which lookups of a table there are.
func made(t *Table) [6]bool {
	return [6]bool{t.classes.made != nil, t.upper.made != nil, t.lower.made != nil, t.ranks.made != nil, t.names.made != nil, t.alike.made != nil}
}

// Lookups are made when they are first asked for: none with the table, and by each call those that it asks.
func TestMadeWhenFirstAsked(t *testing.T) {
	const classes, upper, lower, ranks, names, alike = 0, 1, 2, 3, 4, 5
	for call, of := range map[string]struct {
		ask  func(t *Table)
		asks []int
	}{
		"nothing":       {func(t *Table) {}, nil},
		"Asked":         {func(t *Table) { t.Asked() }, nil},
		"Class":         {func(t *Table) { t.Class("upper") }, []int{classes}},
		"Is":            {func(t *Table) { t.Is("none", 'a') }, []int{classes}},
		"Upper":         {func(t *Table) { t.Upper('a') }, []int{upper}},
		"Lower":         {func(t *Table) { t.Lower(-1) }, []int{lower}},
		"Fold":          {func(t *Table) { t.Fold('a') }, []int{upper, lower}},
		"Rank":          {func(t *Table) { t.Rank([]api.Cell{'a'}) }, []int{ranks}},
		"Named":         {func(t *Table) { t.Named("a") }, []int{names}},
		"Alike":         {func(t *Table) { t.Alike([]api.Cell{'a'}) }, []int{ranks, alike}},
		"Alike to none": {func(t *Table) { t.Alike([]api.Cell{0xe9}) }, []int{ranks}},
		"Between":       {func(t *Table) { t.Between([]api.Cell{'a'}, []api.Cell{'c'}) }, []int{ranks}},
	} {
		var want [6]bool
		for _, i := range of.asks {
			want[i] = true
		}
		table := New(Plain())
		of.ask(table)
		if got := made(table); got != want {
			t.Errorf("%s makes %v, want %v", call, got, want)
		}
	}
}

// Lookups are made once, however often they are asked for, and by how many at once.
func TestMadeOnce(t *testing.T) {
	var u lookup[int, int]
	times := 0
	var wait sync.WaitGroup
	for range 16 {
		wait.Go(func() {
			for range 100 {
				if u.get(func(m map[int]int) { times++; m[1] = times })[1] != 1 {
					t.Error("made a second time")
				}
			}
		})
	}
	wait.Wait()
	if times != 1 {
		t.Errorf("made %d times", times)
	}
}

// Each of a table's lookups is kept: what was laid into it behind its back is there still.
func TestKept(t *testing.T) {
	table := New(Plain())
	table.Is("x", 'a')
	table.Fold('a')
	table.Named("ch")
	table.Alike([]api.Cell{'a'})
	table.classes.made["x"] = []api.Range{{Low: 'a', High: 'a'}}
	table.upper.made['a'] = 'b'
	table.lower.made['a'] = 'c'
	table.ranks.made["ch"] = 0
	table.names.made["ch"] = []api.Cell{'h'}
	table.alike.made[0] = []int{1, 2}
	is, upper, lower, rank := table.Is("x", 'a'), table.Upper('a'), table.Lower('a'), table.Rank([]api.Cell{'c', 'h'})
	if !is || upper != 'b' || lower != 'c' || rank != 0 || !slices.Equal(table.Named("ch"), []api.Cell{'h'}) || len(table.Alike([]api.Cell{'c', 'h'})) != 2 {
		t.Error("a lookup is made again")
	}
}

func TestFromTo(t *testing.T) {
	for _, x := range []struct {
		from, to int
		want     []int
	}{
		{0, 0, []int{0}}, {3, 3, []int{3}}, {0, 2, []int{0, 1, 2}}, {5, 8, []int{5, 6, 7, 8}}, {1, 0, nil}, {9, 2, nil},
	} {
		if got := slices.Collect(fromTo(x.from, x.to)); !slices.Equal(got, x.want) {
			t.Errorf("fromTo(%d, %d) = %v", x.from, x.to, got)
		}
	}
	// Who has seen enough is told no more.
	for n := range fromTo(0, 9) {
		if n == 3 {
			break
		}
	}
}

func TestRising(t *testing.T) {
	for _, x := range []struct{ l, want []api.Cell }{
		{nil, nil}, {[]api.Cell{7}, []api.Cell{7}}, {[]api.Cell{7, 7, 7}, []api.Cell{7}}, {[]api.Cell{3, -1, 2, 3, -1}, []api.Cell{-1, 2, 3}},
	} {
		before := slices.Clone(x.l)
		if got := rising(x.l...); !slices.Equal(got, x.want) || !slices.Equal(x.l, before) {
			t.Errorf("rising(%v) = %v, want %v", before, got, x.want)
		}
	}
}
