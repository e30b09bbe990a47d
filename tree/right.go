package tree

import (
	"slices"

	"redactor/api"
	"redactor/cell"
)

const (
	leastText = 2 // cells of a text of a set: one alone is a range
	leastKids = 2 // of a row, and of what is either of several
	noMost    = -1
)

// Right says whether a tree may be.
func Right(t api.Tree) bool {
	if len(t.Nodes) < 1 || len(t.Nodes) > api.MaxNodes || t.Groups < 0 || t.Groups > api.MaxGroups {
		return false
	}
	c := checker{groups: t.Groups, kids: map[int]bool{}}
	for at, n := range t.Nodes {
		if !c.isNode(n) || !c.areKids(n.Kids, at) {
			return false
		}
	}
	// No kid is met twice, and the last node is ahead of none: so the number tells that all others are kids.
	return len(c.kids) == len(t.Nodes)-1 && !slices.Contains(c.numbers[:t.Groups], false)
}

// checker goes through a tree's nodes, and keeps what it met.
type checker struct {
	groups  int
	numbers [api.MaxGroups]bool // which groups were met, from 1 on
	kids    map[int]bool        // which nodes are a kid
}

// isNode says whether a node has what its kind asks for, and nothing else.
func (c *checker) isNode(n api.Node) bool {
	is, rest := false, n
	switch n.Kind {
	case api.One:
		is, rest.Cell = cell.Right(n.Cell), 0
	case api.Any, api.Begin, api.End, api.Empty:
		is = true
	case api.Set:
		is, rest.Set = isSet(n.Set), api.Bracket{}
	case api.Back:
		is, rest.N = c.isNumber(n.N), 0
	case api.Group:
		is, rest.N, rest.Kids = c.isNewNumber(n.N) && len(n.Kids) == 1, 0, nil
	case api.Row, api.Either:
		is, rest.Kids = len(n.Kids) >= leastKids, nil
	case api.Times:
		is, rest.Min, rest.Max, rest.Kids = areTimes(n.Min, n.Max) && len(n.Kids) == 1, 0, 0, nil
	}
	return is && isBlank(rest)
}

// isBlank says whether a node has nothing but its kind.
func isBlank(n api.Node) bool {
	return n.Cell == 0 && isNoSet(n.Set) && n.N == 0 && n.Min == 0 && n.Max == 0 && len(n.Kids) == 0
}

func isNoSet(s api.Bracket) bool { return !s.Not && len(s.Ranges) == 0 && len(s.Texts) == 0 }

func isSet(s api.Bracket) bool { return all(s.Ranges, isRange) && all(s.Texts, isText) }

func isRange(r api.Range) bool { return cell.Right(r.Low) && cell.Right(r.High) && r.Low <= r.High }

func isText(l []api.Cell) bool {
	return len(l) >= leastText && len(l) <= api.MaxElem && all(l, cell.Right)
}

func areTimes(least, most int) bool {
	if least < 0 || least > api.MaxTimes {
		return false
	}
	return most == noMost || most >= least && most <= api.MaxTimes
}

func (c *checker) isNumber(n int) bool { return n >= 1 && n <= c.groups }

// isNewNumber says whether a number is that of a group which was not met, and keeps it.
func (c *checker) isNewNumber(n int) bool {
	if !c.isNumber(n) || c.numbers[n-1] {
		return false
	}
	c.numbers[n-1] = true
	return true
}

// areKids says whether the kids of the node at a place are ahead of it, and no other's, and keeps them.
func (c *checker) areKids(kids []int, at int) bool {
	return all(kids, func(kid int) bool {
		if kid < 0 || kid >= at || c.kids[kid] {
			return false
		}
		c.kids[kid] = true
		return true
	})
}

func all[T any](l []T, is func(T) bool) bool {
	return !slices.ContainsFunc(l, func(x T) bool { return !is(x) })
}
