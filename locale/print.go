package locale

import (
	"bytes"

	"redactor/api"
	"redactor/lex"
	"redactor/utf8"
)

// Print is a definition of a locale; Right says whether it may be.
func Print(l api.Locale) (s string, err api.Errno) {
	if !Right(l) {
		return "", api.ErrArg
	}
	defer func() {
		if wrong := recover(); wrong != nil {
			err = faultOf(wrong).err
		}
	}()
	var p printer
	p.definition(l)
	return p.String(), api.OK
}

// printer lays tokens behind one another; it panics when there are more than a reader would take.
type printer struct {
	bytes.Buffer
	tokens int
}

func (p *printer) put(l ...api.Token) {
	p.WriteString(lex.Print(l))
	p.tokens += len(l)
	if p.Len() > api.MaxDef || p.tokens > api.MaxTokens {
		panic(api.ErrLong)
	}
}

// endLine ends a line, where lex has laid a blank behind its last token.
func (p *printer) endLine() {
	p.Truncate(p.Len() - 1)
	p.put(api.Token{Kind: api.EndTok})
}

func (p *printer) definition(l api.Locale) {
	for _, c := range l.Classes {
		p.class(c)
	}
	p.pairs(upperWord, l.Upper)
	p.pairs(lowerWord, l.Lower)
	for _, e := range l.Order {
		p.element(e)
	}
	for at := range l.Order {
		p.order(l.Order, at)
	}
}

func (p *printer) class(c api.Class) {
	p.put(word(classWord), word(c.Name))
	putItems(p, c.Ranges, func(r api.Range) {
		p.put(scalar(r.Low))
		if r.High != r.Low {
			p.put(sign(through), scalar(r.High))
		}
	})
	p.endLine()
}

func (p *printer) pairs(first string, l []api.Pair) {
	if len(l) == 0 {
		return
	}
	p.put(word(first))
	putItems(p, l, func(x api.Pair) {
		p.put(sign(open), scalar(x.From), sign(becomes), scalar(x.To), sign(shut))
	})
	p.endLine()
}

// element declares an element, if it has a name.
func (p *printer) element(e api.Elem) {
	if e.Name == "" {
		return
	}
	// Cells of a right locale are all encoded.
	text, _ := utf8.Encode(e.Cells)
	p.put(word(elementWord), item(e), word(fromWord), api.Token{Kind: api.Quoted, Text: string(text)})
	p.endLine()
}

func (p *printer) order(l []api.Elem, at int) {
	p.put(word(orderWord), item(l[at]))
	if same := l[at].Same; same != at {
		p.put(sign(between), item(l[same]))
	}
	p.endLine()
}

func putItems[T any](p *printer, l []T, put func(T)) {
	for i, x := range l {
		if i > 0 {
			p.put(sign(between))
		}
		put(x)
	}
}

func word(text string) api.Token { return api.Token{Kind: api.Word, Text: text} }

func sign(text string) api.Token { return api.Token{Kind: api.Sign, Text: text} }

func scalar(c api.Cell) api.Token { return api.Token{Kind: api.Scalar, N: int(c)} }

// item is what an element is called by: its name, or its one scalar.
func item(e api.Elem) api.Token {
	if e.Name == "" {
		return scalar(e.Cells[0])
	}
	return api.Token{Kind: api.Name, Text: e.Name}
}
