package lex_test

import (
	"fmt"
	"math"
	"regexp"
	"slices"
	"strconv"
	"strings"
	"testing"

	"redactor/api"
	"redactor/lex"
)

func word(text string, at int) api.Token { return api.Token{Kind: api.Word, Text: text, At: at} }

func sign(text string, at int) api.Token { return api.Token{Kind: api.Sign, Text: text, At: at} }

func scalar(n, at int) api.Token { return api.Token{Kind: api.Scalar, N: n, At: at} }

func quoted(text string, at int) api.Token { return api.Token{Kind: api.Quoted, Text: text, At: at} }

func name(text string, at int) api.Token { return api.Token{Kind: api.Name, Text: text, At: at} }

func end(at int) api.Token { return api.Token{Kind: api.EndTok, At: at} }

func isScalar(n int) bool { return n >= 0 && n <= 0x10ffff && (n < 0xd800 || n > 0xdfff) }

// forms are how tokens, and what is nothing, begin a text, as the chapter tells them.
var forms = []struct {
	kind uint8
	form *regexp.Regexp
}{
	{0, regexp.MustCompile("^[\x20\x09]")},
	{0, regexp.MustCompile("^%[^\n]*")},
	{api.EndTok, regexp.MustCompile("^\n")},
	{api.Sign, regexp.MustCompile(`^([;,()]|\.\.\.)`)},
	{api.Scalar, regexp.MustCompile("^<U([0-9A-Fa-f]{4,6})>")},
	{api.Name, regexp.MustCompile("^<([-_0-9A-Za-z]+)>")},
	{api.Quoted, regexp.MustCompile("^\"([^\"\n]*)\"")},
	{api.Word, regexp.MustCompile("^([-_0-9A-Za-z]+)")},
}

// formAt is what stands at the beginning, its kind, and how many bytes it has; 0 bytes: nothing of the forms.
func formAt(s string) (string, uint8, int) {
	for _, f := range forms {
		if found := f.form.FindStringSubmatch(s); found != nil {
			return found[len(found)-1], f.kind, len(found[0])
		}
	}
	return "", 0, 0
}

// tokens are what Tokens must answer, told without it.
func tokens(s string) ([]api.Token, api.Errno, int) {
	if len(s) > 4000 {
		return nil, api.ErrLong, 0
	}
	var l []api.Token
	endLine := func(at int) {
		if len(l) > 0 && l[len(l)-1].Kind != api.EndTok {
			l = append(l, end(at))
		}
	}
	for at := 0; at < len(s); {
		text, kind, size := formAt(s[at:])
		switch {
		case size == 0:
			return nil, api.ErrToken, at
		case kind == api.EndTok:
			endLine(at)
		case kind == api.Scalar:
			n, _ := strconv.ParseInt(text, 16, 64)
			if !isScalar(int(n)) {
				return nil, api.ErrToken, at
			}
			l = append(l, scalar(int(n), at))
		case kind != 0:
			l = append(l, api.Token{Kind: kind, Text: text, At: at})
		}
		at += size
	}
	endLine(len(s))
	if len(l) > 1000 {
		return nil, api.ErrLong, 0
	}
	return l, api.OK, 0
}

// printed is what Print must answer, told without it.
func printed(l []api.Token) string {
	s := ""
	for _, t := range l {
		switch t.Kind {
		case api.Scalar:
			s += fmt.Sprintf("<U%04X> ", max(t.N, 0))
		case api.Name:
			s += fmt.Sprintf("<%s> ", t.Text)
		case api.Quoted:
			s += "\"" + t.Text + "\" "
		case api.EndTok:
			s += "\n"
		default:
			s += t.Text + " "
		}
	}
	return s
}

// placeless are tokens without their places.
func placeless(l []api.Token) []api.Token {
	l = slices.Clone(l)
	for i := range l {
		l[i].At = 0
	}
	return l
}

// check holds all promises about a text against the test's own calls.
func check(t *testing.T, s string) {
	t.Helper()
	l, e, at := lex.Tokens(s)
	want, wantE, wantAt := tokens(s)
	if !slices.Equal(l, want) || e != wantE || at != wantAt {
		t.Fatalf("Tokens(%q) = %v, %d, %d, want %v, %d, %d", s, l, e, at, want, wantE, wantAt)
	}
	checkPrint(t, l)
	checkBack(t, l)
}

func checkPrint(t *testing.T, l []api.Token) {
	t.Helper()
	if got, want := lex.Print(l), printed(l); got != want {
		t.Fatalf("Print(%v) = %q, want %q", l, got, want)
	}
}

// checkBack says that tokens of a text, printed, are the same ones, while there are not too many bytes of them.
func checkBack(t *testing.T, l []api.Token) {
	t.Helper()
	text := lex.Print(l)
	back, e, _ := lex.Tokens(text)
	if len(text) > 4000 {
		if e != api.ErrLong {
			t.Fatalf("Tokens of %d bytes: %d", len(text), e)
		}
		return
	}
	if e != api.OK || !slices.Equal(placeless(back), placeless(l)) {
		t.Fatalf("Tokens(Print(%v)) = %v, %d", l, back, e)
	}
}

func expect(t *testing.T, s string, want ...api.Token) {
	t.Helper()
	l, e, at := lex.Tokens(s)
	if !slices.Equal(l, want) || e != api.OK || at != 0 {
		t.Errorf("Tokens(%q) = %v, %d, %d, want %v", s, l, e, at, want)
	}
	checkBack(t, l)
}

func expectError(t *testing.T, s string, want api.Errno, wantAt int) {
	t.Helper()
	if l, e, at := lex.Tokens(s); len(l) != 0 || e != want || at != wantAt {
		t.Errorf("Tokens(%.60q) = %v, %d, %d, want %d, %d", s, l, e, at, want, wantAt)
	}
}

func expectTokenError(t *testing.T, s string, at int) {
	t.Helper()
	expectError(t, s, api.ErrToken, at)
}

func TestExample(t *testing.T) {
	const s = "class <U0041>;%x"
	expect(t, s, word("class", 0), scalar(0x41, 6), sign(";", 13), end(16))
	l, _, _ := lex.Tokens(s)
	if got := lex.Print(l); got != "class <U0041> ; \n" {
		t.Errorf("Print(%v) = %q", l, got)
	}
}

func TestNothing(t *testing.T) {
	for _, s := range []string{
		"",
		" ", "\t", "  ", "\t\t", " \t \t ",
		"%", "%%", "%a", "%\n", "%a\n", "%a\n%b\n%c", "%a\n%b\n%c\n", "%%\n%%",
		"\n", "\n\n", "\n\n\n",
		" \n\t\n \t\n", "\n %\n\t%a \n\n", " %a\n \n%\n",
		"% ! <> \" .. \x00\xff\xc3\r",
	} {
		expect(t, s)
	}
}

func TestBlanks(t *testing.T) {
	expect(t, " a", word("a", 1), end(2))
	expect(t, "\ta\t", word("a", 1), end(3))
	expect(t, " \t a \t b\t ", word("a", 3), word("b", 7), end(10))
	expect(t, "a\n \t\n b", word("a", 0), end(1), word("b", 6), end(7))
	for _, b := range []string{"\x00", "\x0b", "\x0c", "\r", "\x1f", "\x7f", "\x85", "\xa0", "\u0085", "\u00a0", "\u2028", "\u3000", "\ufeff"} {
		expectTokenError(t, b, 0)
		expectTokenError(t, "a "+b, 2)
	}
}

func TestRemarks(t *testing.T) {
	// A remark leaves the 0a that ends it, which ends the line ahead of it, too.
	expect(t, "a%b\nc", word("a", 0), end(3), word("c", 4), end(5))
	expect(t, "a%b", word("a", 0), end(3))
	expect(t, "a %b\n", word("a", 0), end(4))
	expect(t, "a%", word("a", 0), end(2))
	expect(t, "a%\n%x\n %\nb", word("a", 0), end(2), word("b", 9), end(10))
	expect(t, "a\n%x", word("a", 0), end(1))
	expect(t, "%a\nb%c%d\n%e", word("b", 3), end(8))
	expect(t, "a% ! <> \" .. \x00\xff\r%\nb", word("a", 0), end(17), word("b", 18), end(19))
	// Where bytes are quoted, and in a name, no remark begins.
	expect(t, `"%"%"`, quoted("%", 0), end(5))
	expectTokenError(t, "<%>", 0)
	expectTokenError(t, "\"a%\n\"", 0)
	expectTokenError(t, "<U00%\n41>", 0)
	expectTokenError(t, ".%\n..", 0)
	expectTokenError(t, "%x\n!", 3)
}

func TestEnds(t *testing.T) {
	expect(t, "a", word("a", 0), end(1))
	expect(t, "a\n", word("a", 0), end(1))
	expect(t, "a \t ", word("a", 0), end(4))
	expect(t, "a \n", word("a", 0), end(2))
	expect(t, "a\n\n\n", word("a", 0), end(1))
	expect(t, "a\n \t%x\n", word("a", 0), end(1))
	expect(t, "\n\na", word("a", 2), end(3))
	expect(t, "\na\n\nb\n\n", word("a", 1), end(2), word("b", 4), end(5))
	expect(t, "a\nb", word("a", 0), end(1), word("b", 2), end(3))
	expect(t, ";\n;\n", sign(";", 0), end(1), sign(";", 2), end(3))
	expect(t, "\"\"\n<a>\n<U0041>", quoted("", 0), end(2), name("a", 3), end(6), scalar(0x41, 7), end(14))
	expectTokenError(t, "\r\n", 0)
	expectTokenError(t, "a\r\n", 1)
}

func TestSigns(t *testing.T) {
	for _, s := range []string{";", ",", "(", ")", "..."} {
		n := len(s)
		expect(t, s, sign(s, 0), end(n))
		expect(t, s+s, sign(s, 0), sign(s, n), end(2*n))
		expect(t, " "+s+"\n", sign(s, 1), end(n+1))
		expect(t, "a"+s+"b", word("a", 0), sign(s, 1), word("b", n+1), end(n+2))
	}
	expect(t, ";,()...;", sign(";", 0), sign(",", 1), sign("(", 2), sign(")", 3), sign("...", 4), sign(";", 7), end(8))
	expect(t, ")(", sign(")", 0), sign("(", 1), end(2))
	expect(t, "<U0041>...<U0043>", scalar(0x41, 0), sign("...", 7), scalar(0x43, 10), end(17))
	for s, at := range map[string]int{
		".": 0, "..": 0, "....": 3, ".....": 3, ".......": 6, ". . .": 0, ".. .": 0, "a.": 1, "a..": 1, ".a.": 0, "..\n.": 0, "... .": 4, ";..;": 1, "\u2026": 0,
	} {
		expectTokenError(t, s, at)
	}
}

func TestScalars(t *testing.T) {
	for s, n := range map[string]int{
		"<U0000>": 0, "<U0041>": 0x41, "<U00041>": 0x41, "<U000041>": 0x41,
		"<U00e9>": 0xe9, "<U00E9>": 0xe9, "<UabCD>": 0xabcd, "<UABcd>": 0xabcd, "<Uffff>": 0xffff, "<UFFFF>": 0xffff,
		"<U0123>": 0x123, "<U4567>": 0x4567, "<U89ab>": 0x89ab, "<UcdEf>": 0xcdef,
		"<UD7FF>": 0xd7ff, "<UE000>": 0xe000, "<U00E000>": 0xe000, "<UFFFD>": 0xfffd,
		"<U10000>": 0x10000, "<U1F600>": 0x1f600, "<U01f600>": 0x1f600, "<UFFFFF>": 0xfffff,
		"<U100000>": 0x100000, "<U10FFFF>": 0x10ffff, "<U10ffff>": 0x10ffff,
	} {
		expect(t, s, scalar(n, 0), end(len(s)))
		expect(t, "a "+s+"b", word("a", 0), scalar(n, 2), word("b", len(s)+2), end(len(s)+3))
	}
	for _, s := range []string{"<UD800>", "<Ud800>", "<UDBFF>", "<UDC00>", "<UDFFF>", "<U0D800>", "<U00dfff>", "<U110000>", "<U11FFFF>", "<UFFFFFF>", "<U800000>"} {
		expectTokenError(t, s, 0)
		expectTokenError(t, "a\n "+s+" b", 3)
	}
}

// Of each number of 4 to 6 digits, with as few as there can be: whether it is a SCALAR.
func TestEveryNumber(t *testing.T) {
	for n := 0; n <= 0x110200; n++ {
		s := fmt.Sprintf("<U%04X>", n)
		l, e, at := lex.Tokens(s)
		if isScalar(n) != (e == api.OK) || at != 0 {
			t.Fatalf("Tokens(%s) = %v, %d, %d", s, l, e, at)
		}
		if isScalar(n) && (l[0] != scalar(n, 0) || lex.Print(l) != s+" \n") {
			t.Fatalf("Tokens(%s) = %v, printed %q", s, l, lex.Print(l))
		}
	}
}

func TestNames(t *testing.T) {
	for _, s := range []string{
		"a", "Z", "0", "-", "_", "ch", "a-b_C9", "--", "____", "x1234", "0041", "element-of-the-order",
		// These begin with U and are no scalar: too few digits, too many, other signs, or a small u.
		"U", "U0", "U04", "U041", "UD80", "U0000041", "U00000041", "U00D8000", "UFFFFFFF", "U00G1", "U004g", "Ugggg", "UU0041", "U-041", "U0041-", "U0x41", "U1_000", "U0_041", "U____",
		"u0041", "uD800", "xU0041", "-U0041",
	} {
		expect(t, "<"+s+">", name(s, 0), end(len(s)+2))
		expect(t, "a<"+s+">b", word("a", 0), name(s, 1), word("b", len(s)+3), end(len(s)+4))
	}
	expect(t, "<a><b>", name("a", 0), name("b", 3), end(6))
	for s, at := range map[string]int{
		"<>": 0, "<": 0, "<a": 0, "<a\n>": 0, "<a b>": 0, "< a>": 0, "<a >": 0, "<a;b>": 0, "<a.b>": 0, "<\"a\">": 0, "<é>": 0, "<a\x00>": 0,
		"<U0041": 0, "<U0041 >": 0, "<U 0041>": 0, "<U+0041>": 0, "<U0041;": 0, "<U00é>": 0,
		"<<a>>": 0, "<a>>": 3, ">": 0, "a>": 1, "a<": 1, "a <": 2, "><a>": 0, "<a><": 3, "<a> <>": 4,
	} {
		expectTokenError(t, s, at)
	}
}

func TestQuoted(t *testing.T) {
	for _, s := range []string{
		"", " ", "a", "a b", "%", "%;x", ";", "...", "..", "<U0041>", "<>", "\\", "\\n", "'", "\t", "\r", "\x00", "!", "é", "\xff", "\xc3", "\xf0\x9f\x98", "\ufffd", "\u2028",
	} {
		expect(t, `"`+s+`"`, quoted(s, 0), end(len(s)+2))
		expect(t, `a"`+s+`"b`, word("a", 0), quoted(s, 1), word("b", len(s)+3), end(len(s)+4))
	}
	expect(t, `""""`, quoted("", 0), quoted("", 2), end(4))
	expect(t, `"a""b"`, quoted("a", 0), quoted("b", 3), end(6))
	expect(t, "\"a\"\n\"b\"", quoted("a", 0), end(3), quoted("b", 4), end(7))
	for s, at := range map[string]int{
		`"`: 0, `"a`: 0, `"""`: 2, `a"`: 1, `"a" "`: 4, `"\"`: -1, `"\""`: 3, "\"\n\"": 0, "\"a\nb\"": 0, "\"a\n": 0, "\"\n": 0, "x \"a\n\"": 2, "\"a\n\"b\"": 0, "\"a\"\n\"\nb\"": 4,
	} {
		if at < 0 {
			// A stroke is a byte like any other: it keeps no end away.
			expect(t, s, quoted(`\`, 0), end(3))
			continue
		}
		expectTokenError(t, s, at)
	}
}

func TestEveryQuotedByte(t *testing.T) {
	all := ""
	for n := range 256 {
		b := string([]byte{byte(n)})
		switch b {
		case "\"":
			expectTokenError(t, `"`+b+`"`, 2)
		case "\n":
			expectTokenError(t, `"`+b+`"`, 0)
		default:
			expect(t, `"`+b+`"`, quoted(b, 0), end(3))
			all += b
		}
	}
	expect(t, `"`+all+`"`, quoted(all, 0), end(256))
}

const wordSigns = "abcdefghijklmnopqrstuvwxyzABCDEFGHIJKLMNOPQRSTUVWXYZ0123456789-_"

func TestWords(t *testing.T) {
	expect(t, wordSigns, word(wordSigns, 0), end(64))
	expect(t, "<"+wordSigns+">", name(wordSigns, 0), end(66))
	for _, s := range []string{"class", "toupper", "collating-element", "a_b", "-", "--", "_", "0", "007", "U0041", "9-lives", "Zz"} {
		expect(t, s, word(s, 0), end(len(s)))
		expect(t, s+" "+s, word(s, 0), word(s, len(s)+1), end(2*len(s)+1))
	}
	expect(t, "ab;cd", word("ab", 0), sign(";", 2), word("cd", 3), end(5))
	expect(t, "a<b>c\"d\"e%f", word("a", 0), name("b", 1), word("c", 4), quoted("d", 5), word("e", 8), end(11))
	expectTokenError(t, "caf\u00e9", 3)
	expectTokenError(t, "a+b", 1)
	expectTokenError(t, "a/b", 1)
}

// Of all bytes those of the chapter begin a token, or are nothing: at the beginning, in the midst, and at the end.
func TestEveryByte(t *testing.T) {
	const others = " \t%\n;,()\"<." + wordSigns
	for n := range 256 {
		b := string([]byte{byte(n)})
		for _, s := range []string{b, b + "a", "a" + b, "a" + b + "b", b + b, b + b + b, "<" + b + ">", "<U004" + b + ">", "<U0041" + b, "\n" + b} {
			check(t, s)
		}
		if strings.Contains(wordSigns, b) {
			expect(t, b, word(b, 0), end(1))
		}
		if !strings.Contains(others, b) {
			expectTokenError(t, b, 0)
			expectTokenError(t, "ab "+b+" c", 3)
			expectTokenError(t, "ab\n"+b, 3)
			expectTokenError(t, "ab"+b, 2)
		}
	}
}

func TestTooManyBytes(t *testing.T) {
	expect(t, strings.Repeat(" ", 4000))
	expect(t, strings.Repeat("\n", 4000))
	expect(t, "%"+strings.Repeat("x", 3999))
	expect(t, strings.Repeat(" ", 3999)+"a", word("a", 3999), end(4000))
	for _, s := range []string{strings.Repeat("a", 4000), strings.Repeat("-", 4000)} {
		l, e, at := lex.Tokens(s)
		if !slices.Equal(l, []api.Token{word(s, 0), end(4000)}) || e != api.OK || at != 0 {
			t.Errorf("Tokens of a word of 4000 bytes: %d tokens, %d, %d", len(l), e, at)
		}
	}
	for _, s := range []string{" ", "\n", "%", "a", ";", "!", "\"", "<", "\xff"} {
		expectError(t, strings.Repeat(s, 4001), api.ErrLong, 0)
	}
	expectError(t, strings.Repeat("a", 4000)+"\n", api.ErrLong, 0)
	expectError(t, "a\n"+strings.Repeat(" ", 3999), api.ErrLong, 0)
	expectError(t, strings.Repeat("a", 1000000), api.ErrLong, 0)
	// Bytes are counted, not scalars.
	expect(t, "%"+strings.Repeat("é", 1999)+"x")
	expectError(t, "%"+strings.Repeat("é", 2000), api.ErrLong, 0)
}

// expectMany says that so many tokens are told, of which the last one is an EndTok at that place.
func expectMany(t *testing.T, s string, n, at int) {
	t.Helper()
	l, e, place := lex.Tokens(s)
	if len(l) != n || e != api.OK || place != 0 || l[n-1] != end(at) {
		t.Errorf("Tokens(%.20q..) has %d tokens, %d, %d", s, len(l), e, place)
	}
	check(t, s)
}

func TestTooManyTokens(t *testing.T) {
	for _, one := range []string{";", "a ", "<a>", `""`, "(", "..."} {
		// The EndTok is one of the 1000, whether a 0a stands there or the text ends.
		many := strings.Repeat(one, 999)
		expectMany(t, many, 1000, len(many))
		expectMany(t, many+"\n", 1000, len(many))
		expectMany(t, many+"\n\n %x\n", 1000, len(many))
		expectMany(t, many+"%x", 1000, len(many)+2)
		expectError(t, many+"\na", api.ErrLong, 0)
		expectError(t, many+one, api.ErrLong, 0)
		expectError(t, many+one+"\n", api.ErrLong, 0)
		expectError(t, many+one+one, api.ErrLong, 0)
	}
	lines := strings.Repeat(";\n", 500)
	expectMany(t, lines, 1000, 999)
	expectMany(t, lines[:999], 1000, 999)
	expectMany(t, lines+"\n\n%x", 1000, 999)
	expectError(t, lines+";", api.ErrLong, 0)
	expectError(t, ";"+lines, api.ErrLong, 0)
	expectError(t, strings.Repeat(";", 4000), api.ErrLong, 0)
	expectError(t, strings.Repeat("a\n", 2000), api.ErrLong, 0)
	// What is nothing is no token, however much there is of it.
	expectMany(t, strings.Repeat(" \n", 1000)+strings.Repeat("; ", 999), 1000, 3998)
}

// Too many bytes go ahead of what is no token, that ahead of too many tokens; of several places the first one is told.
func TestWhichErrorIsTold(t *testing.T) {
	expectError(t, "!"+strings.Repeat(";", 4000), api.ErrLong, 0)
	expectError(t, strings.Repeat("!", 4000), api.ErrToken, 0)
	expectError(t, strings.Repeat(";", 4000)+"!", api.ErrLong, 0)
	for _, wrong := range []string{"!", "<UD800>", "<>", "\"", "..", "\xff", "\x00", "<U110000>"} {
		for _, n := range []int{0, 1, 999, 1000, 1001, 1002, 3000} {
			expectTokenError(t, strings.Repeat(";", n)+wrong, n)
			expectTokenError(t, strings.Repeat(";", n)+wrong+strings.Repeat(";", 900), n)
			expectTokenError(t, strings.Repeat(";", n)+"\n"+wrong+"\n!", n+1)
		}
		expectTokenError(t, wrong+strings.Repeat(" ;", 1900), 0)
		expectTokenError(t, strings.Repeat(";", 3991)+wrong, 3991)
	}
	expectTokenError(t, "a ! <UD800> \"", 2)
	expectTokenError(t, "a <UD800> ! \"", 2)
	expectTokenError(t, "\"a\n ! <>", 0)
}

// rows are all texts of up to most of some pieces.
func rows(some []string, most int, visit func(s string)) {
	var grow func(s string, n int)
	grow = func(s string, n int) {
		visit(s)
		for i := 0; i < len(some) && n < most; i++ {
			grow(s+some[i], n+1)
		}
	}
	grow("", 0)
}

func TestRows(t *testing.T) {
	rows([]string{"a", "-", ";", ".", "...", "<", ">", "<U0041>", "<UD800>", "<ch>", "U0041", "\"", "\n", " ", "%", "!"}, 4, func(s string) { check(t, s) })
	rows([]string{"a", "\"", "\n", "%", " "}, 6, func(s string) { check(t, s) })
	rows([]string{"<", "U", "0", "F", "g", ">"}, 6, func(s string) { check(t, "<U0"+s+">") })
}

func TestPrint(t *testing.T) {
	for _, c := range []struct {
		token api.Token
		want  string
	}{
		{word("class", 0), "class "},
		{word("", 0), " "},
		{sign("...", 3), "... "},
		{sign(";", 0), "; "},
		{scalar(0x41, 0), "<U0041> "},
		{name("ch", 7), "<ch> "},
		{name("", 0), "<> "},
		{quoted("a b", 0), "\"a b\" "},
		{quoted("", 0), "\"\" "},
		{end(9), "\n"},
		// Text is printed as it is, whatever its kind would ask for.
		{word("a b\n\"%\xff", 0), "a b\n\"%\xff "},
		{sign("x", 0), "x "},
		{name("<U0041>", 0), "<<U0041>> "},
		{quoted("a\"\nb\x00", 0), "\"a\"\nb\x00\" "},
		// What a kind does not tell is not printed.
		{api.Token{Kind: api.Word, Text: "a", N: 0x41, At: 5}, "a "},
		{api.Token{Kind: api.Sign, Text: ",", N: -1, At: -5}, ", "},
		{api.Token{Kind: api.Scalar, Text: "x", N: 0x61, At: 5}, "<U0061> "},
		{api.Token{Kind: api.Quoted, Text: "a", N: 0x41}, "\"a\" "},
		{api.Token{Kind: api.Name, Text: "a", N: 0x41}, "<a> "},
		{api.Token{Kind: api.EndTok, Text: "x", N: 0x41, At: 1}, "\n"},
		{api.Token{}, " "},
	} {
		if got := lex.Print([]api.Token{c.token}); got != c.want {
			t.Errorf("Print(%v) = %q, want %q", c.token, got, c.want)
		}
	}
	if got := lex.Print([]api.Token{word("class", 0), scalar(0xe9, 1), sign(";", 2), end(0), end(0), quoted("", 0), name("a", 0), word("b", 0)}); got != "class <U00E9> ; \n\n\"\" <a> b " {
		t.Errorf("Print of several is %q", got)
	}
}

// Of a kind that is none of the six Text is printed.
func TestPrintOfNoKind(t *testing.T) {
	for kind := range 256 {
		if kind >= 1 && kind <= 6 {
			continue
		}
		for _, text := range []string{"", "ab", "\"", "\n\xff"} {
			l := []api.Token{{Kind: uint8(kind), Text: text, N: 0x41, At: 3}}
			if got := lex.Print(append(l, end(0))); got != text+" \n" {
				t.Errorf("Print(%v) = %q", l, got)
			}
		}
	}
}

func TestPrintOfNumbers(t *testing.T) {
	for n, want := range map[int]string{
		0: "0000", 1: "0001", 0xf: "000F", 0x10: "0010", 0xff: "00FF", 0x100: "0100", 0xfff: "0FFF", 0x1000: "1000", 0xabcd: "ABCD", 0xffff: "FFFF",
		0xd800: "D800", 0xdfff: "DFFF", 0x10000: "10000", 0xfffff: "FFFFF", 0x100000: "100000", 0x10ffff: "10FFFF", 0x110000: "110000", 0xffffff: "FFFFFF", 0x1000000: "1000000",
		math.MaxInt32: "7FFFFFFF", math.MaxUint32: "FFFFFFFF", math.MaxInt: "7FFFFFFFFFFFFFFF", 0x123456789abcdef0: "123456789ABCDEF0",
		-1: "0000", -0x41: "0000", -0x10000: "0000", math.MinInt32: "0000", math.MinInt + 1: "0000", math.MinInt: "0000",
	} {
		if got := lex.Print([]api.Token{scalar(n, 0)}); got != "<U"+want+"> " {
			t.Errorf("Print of the scalar %d = %q, want %q", n, got, want)
		}
	}
	for n := -70000; n <= 70000; n++ {
		checkPrint(t, []api.Token{scalar(n, 0)})
	}
}

// What tokens are printed has the same tokens: of each kind behind each other one.
func TestPrintedComesBack(t *testing.T) {
	all := []api.Token{
		word("a", 0), word("U0041", 0), word("-_9", 0), sign(";", 0), sign(",", 0), sign("(", 0), sign(")", 0), sign("...", 0),
		scalar(0, 0), scalar(0x41, 0), scalar(0xffff, 0), scalar(0x10ffff, 0), name("ch", 0), name("U041", 0), name("U0000041", 0),
		quoted("", 0), quoted(" %<;\\\xff\x00\r", 0),
	}
	for _, a := range all {
		for _, b := range all {
			checkBack(t, []api.Token{a, b, end(0)})
			checkBack(t, []api.Token{a, end(0), b, a, end(0)})
		}
	}
	checkBack(t, append(slices.Clone(all), end(0)))
	// Blanks, remarks and lines of nothing are not told, so that they do not come back.
	l, _, _ := lex.Tokens("\n a%x\n\n\t<u00E9><U00e9> ;\"%\"")
	if got := lex.Print(l); got != "a \n<u00E9> <U00E9> ; \"%\" \n" {
		t.Errorf("Print is %q", got)
	}
}

// Print lays a blank behind each token: what had none between its tokens may have too many bytes then.
func TestPrintedIsLonger(t *testing.T) {
	for size, want := range map[int]api.Errno{2000: api.OK, 2001: api.ErrLong} {
		text := strings.Repeat("a;", 499) + "\"" + strings.Repeat("x", size) + "\""
		l, e, _ := lex.Tokens(text)
		if len(l) != 1000 || e != api.OK {
			t.Fatalf("Tokens of %d bytes: %d tokens, %d", len(text), len(l), e)
		}
		again := lex.Print(l)
		back, f, _ := lex.Tokens(again)
		if f != want || want == api.OK && !slices.Equal(placeless(back), placeless(l)) {
			t.Errorf("Tokens of %d bytes, printed of %d: %d tokens, %d", len(again), len(text), len(back), f)
		}
	}
}
