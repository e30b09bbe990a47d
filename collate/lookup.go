package collate

import (
	"iter"
	"slices"
	"strings"
	"sync"
	"sync/atomic"

	"redactor/api"
	"redactor/cell"
)

// counter counts calls, whoever makes them at the same time.
type counter struct{ calls atomic.Int64 }

func (c *counter) count() { c.calls.Add(1) }

func (c *counter) counted() int { return int(c.calls.Load()) }

// lookup is a map that is made when it is first asked for, and never again.
type lookup[K comparable, V any] struct {
	sync.Once
	made map[K]V
}

// get is the map; fill makes it of an empty one.
func (u *lookup[K, V]) get(fill func(map[K]V)) map[K]V {
	u.Do(func() {
		u.made = map[K]V{}
		fill(u.made)
	})
	return u.made
}

// classes are ranges by names.
type classes struct {
	lookup[string, []api.Range]
	all []api.Class
}

func (s *classes) ranges(name string) ([]api.Range, bool) {
	ranges, is := s.get(s.fill)[name]
	return ranges, is
}

func (s *classes) fill(byName map[string][]api.Range) {
	for _, c := range s.all {
		byName[c.Name] = c.Ranges
	}
}

// changes are pairs of what becomes what.
type changes struct {
	lookup[api.Cell, api.Cell]
	pairs []api.Pair
}

// of is what a cell becomes: itself, if no pair tells of it.
func (s *changes) of(c api.Cell) api.Cell {
	if to, is := s.get(s.fill)[c]; is {
		return to
	}
	return c
}

func (s *changes) fill(to map[api.Cell]api.Cell) {
	for _, p := range s.pairs {
		to[p.From] = p.To
	}
}

// order are elements, and where they stand: by their cells' text, and by the Same that several have.
type order struct {
	elements []api.Elem
	ranks    lookup[string, int]
	names    lookup[string, []api.Cell]
	alike    lookup[int, []int]
}

// rank is the place of an element; -1: there is none of these cells.
func (o *order) rank(l []api.Cell) int {
	// No element has more cells: a text of them all need not be made.
	if len(l) > api.MaxElem {
		return -1
	}
	if place, is := o.ranks.get(o.fillRanks)[cell.Text(l)]; is {
		return place
	}
	return -1
}

func (o *order) fillRanks(places map[string]int) {
	for place, e := range o.elements {
		places[cell.Text(e.Cells)] = place
	}
}

func (o *order) named(name string) ([]api.Cell, bool) {
	cells, is := o.names.get(o.fillNames)[name]
	return cells, is
}

// fillNames leaves out elements of one scalar, which have no name: nothing is not the name of any of them.
func (o *order) fillNames(cells map[string][]api.Cell) {
	for _, e := range o.elements {
		if e.Name != "" {
			cells[e.Name] = e.Cells
		}
	}
}

// placesAlike are the places of all that are as good as the element at a place.
func (o *order) placesAlike(place int) []int {
	return o.alike.get(o.fillAlike)[o.elements[place].Same]
}

func (o *order) fillAlike(places map[int][]int) {
	for place, e := range o.elements {
		places[e.Same] = append(places[e.Same], place)
	}
}

// cellsAt are the cells of the elements at places, each in memory of its own.
func (o *order) cellsAt(places iter.Seq[int]) [][]api.Cell {
	var l [][]api.Cell
	for place := range places {
		l = append(l, slices.Clone(o.elements[place].Cells))
	}
	return l
}

// fromTo tells numbers from one to another one.
func fromTo(from, to int) iter.Seq[int] {
	return func(yield func(int) bool) {
		for n := range to - from + 1 {
			if !yield(from + n) {
				return
			}
		}
	}
}

func copiesOf[T any](l []T, copyOf func(T) T) []T {
	copies := make([]T, 0, len(l))
	for _, x := range l {
		copies = append(copies, copyOf(x))
	}
	return copies
}

func copyOfClass(c api.Class) api.Class {
	return api.Class{Name: strings.Clone(c.Name), Ranges: slices.Clone(c.Ranges)}
}

func copyOfElem(e api.Elem) api.Elem {
	return api.Elem{Name: strings.Clone(e.Name), Cells: slices.Clone(e.Cells), Same: e.Same}
}
