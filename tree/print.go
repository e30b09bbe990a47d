package tree

import (
	"strconv"
	"strings"

	"redactor/api"
	"redactor/cell"
)

// Print is a tree as a text; nothing, if it may not be.
func Print(t api.Tree) string {
	// Of a tree that is right each kid is ahead of its node: so printing ends.
	if !Right(t) {
		return ""
	}
	p := printer{nodes: t.Nodes}
	p.printNode(len(t.Nodes) - 1)
	return p.String()
}

// printer writes the nodes of a tree that is right.
type printer struct {
	strings.Builder
	nodes []api.Node
}

func (p *printer) printNode(at int) {
	n := p.nodes[at]
	before, between, behind := signsOf(n)
	p.WriteString(before)
	for i, kid := range n.Kids {
		if i > 0 {
			p.WriteString(between)
		}
		p.printNode(kid)
	}
	p.WriteString(behind)
}

// signsOf are what stands before, between and behind a node's kids; of a node without kids the first is all of it.
func signsOf(n api.Node) (before, between, behind string) {
	switch n.Kind {
	case api.One:
		before = "'" + textOf(n.Cell)
	case api.Any:
		before = "."
	case api.Set:
		before = textOfSet(n.Set)
	case api.Begin:
		before = "^"
	case api.End:
		before = "$"
	case api.Back:
		before = "#" + strconv.Itoa(n.N)
	case api.Group:
		before, behind = "("+strconv.Itoa(n.N)+":", ")"
	case api.Either:
		before, between, behind = "{", "|", "}"
	case api.Times:
		behind = "*" + strconv.Itoa(n.Min) + "," + strconv.Itoa(n.Max)
	case api.Empty:
		before = "()"
	}
	return before, between, behind
}

func textOf(c api.Cell) string { return cell.Text([]api.Cell{c}) }

func textOfSet(s api.Bracket) string {
	var text strings.Builder
	text.WriteString("[")
	if s.Not {
		text.WriteString("^")
	}
	for _, r := range s.Ranges {
		text.WriteString(textOf(r.Low) + "-" + textOf(r.High) + " ")
	}
	for _, cells := range s.Texts {
		text.WriteString("=" + cell.Text(cells) + " ")
	}
	text.WriteString("]")
	return text.String()
}
