package locale

import (
	"slices"
	"strings"

	"redactor/api"
	"redactor/cell"
	"redactor/utf8"
)

const (
	leastElem   = 2 // cells of an element that has a name
	leastDigits = 4 // of a scalar
	mostDigits  = 6
	hexDigits   = "0123456789abcdefABCDEF"
	wordSigns   = "abcdefghijklmnopqrstuvwxyzABCDEFGHIJKLMNOPQRSTUVWXYZ0123456789-_"
)

// Right says whether a locale is one that a definition may tell.
func Right(l api.Locale) bool {
	return rightClasses(l.Classes) && rightPairs(l.Upper) && rightPairs(l.Lower) && rightOrder(l.Order)
}

func rightClasses(l []api.Class) bool {
	isNew := firstTime[string]()
	return all(l, func(c api.Class) bool {
		return isOf(wordSigns, c.Name) && isNew(c.Name) && len(c.Ranges) > 0 && all(c.Ranges, isRange)
	})
}

func isRange(r api.Range) bool { return isScalar(r.Low) && isScalar(r.High) && r.Low <= r.High }

func rightPairs(l []api.Pair) bool {
	isNew := firstTime[api.Cell]()
	return all(l, func(p api.Pair) bool {
		return isScalar(p.From) && isScalar(p.To) && isNew(p.From)
	})
}

func rightOrder(l []api.Elem) bool {
	if len(l) > api.MaxOrder {
		return false
	}
	isNewName, isNewText := firstTime[string](), firstTime[string]()
	for at, e := range l {
		if !isElem(e) || !isNewText(cell.Text(e.Cells)) || !rightSame(l, at) {
			return false
		}
		if e.Name != "" && !isNewName(e.Name) {
			return false
		}
	}
	return true
}

func isElem(e api.Elem) bool {
	if len(e.Cells) == 1 {
		return isScalar(e.Cells[0]) && e.Name == ""
	}
	return isQuotable(e.Cells) && isOf(wordSigns, e.Name) && !isScalarName(e.Name)
}

// isQuotable says whether cells are those of bytes that may be quoted, and as many as an element with a name has.
func isQuotable(l []api.Cell) bool {
	if len(l) < leastElem || len(l) > api.MaxElem || slices.Contains(l, '"') || slices.Contains(l, '\n') {
		return false
	}
	return utf8.Canonical(l)
}

// isScalarName says whether a name would be read as a scalar.
func isScalarName(name string) bool {
	digits, is := strings.CutPrefix(name, "U")
	return is && len(digits) >= leastDigits && len(digits) <= mostDigits && isOf(hexDigits, digits)
}

// rightSame says whether the element at a place is as good as itself, or as one ahead of it that is as good as itself.
func rightSame(l []api.Elem, at int) bool {
	same := l[at].Same
	return same >= 0 && same <= at && l[same].Same == same
}

func isScalar(c api.Cell) bool { return c >= 0 && cell.Right(c) }

// isOf says whether a text has one sign or more, all of these.
func isOf(signs, text string) bool { return text != "" && strings.Trim(text, signs) == "" }

func all[T any](l []T, is func(T) bool) bool {
	return !slices.ContainsFunc(l, func(x T) bool { return !is(x) })
}
