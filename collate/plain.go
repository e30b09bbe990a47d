package collate

import "redactor/api"

const (
	plainSize = 0x80 // scalars of the plain locale
	letters   = 26
)

// Plain is the locale of no definition.
func Plain() api.Locale {
	l := api.Locale{Classes: plainClasses()}
	for n := range api.Cell(letters) {
		l.Upper = append(l.Upper, api.Pair{From: 'a' + n, To: 'A' + n})
		l.Lower = append(l.Lower, api.Pair{From: 'A' + n, To: 'a' + n})
	}
	for n := range plainSize {
		l.Order = append(l.Order, api.Elem{Cells: []api.Cell{api.Cell(n)}, Same: n})
	}
	return l
}

func plainClasses() []api.Class {
	upper, lower, digit := span('A', 'Z'), span('a', 'z'), span('0', '9')
	space := span(' ', ' ')
	return []api.Class{
		class("upper", upper),
		class("lower", lower),
		class("alpha", upper, lower),
		class("digit", digit),
		class("alnum", digit, upper, lower),
		class("space", span('\t', '\r'), space),
		class("blank", span('\t', '\t'), space),
		class("punct", span('!', '/'), span(':', '@'), span('[', '`'), span('{', '~')),
		class("print", span(' ', '~')),
		class("graph", span('!', '~')),
		class("cntrl", span(0, 0x1f), span(0x7f, 0x7f)),
		class("xdigit", digit, span('A', 'F'), span('a', 'f')),
	}
}

func class(name string, ranges ...api.Range) api.Class {
	return api.Class{Name: name, Ranges: ranges}
}

func span(low, high api.Cell) api.Range { return api.Range{Low: low, High: high} }
