package bre_test

import (
	"math"
	"math/rand"
	"slices"
	"strconv"
	"strings"
	"testing"

	"redactor/api"
	"redactor/bracket"
	"redactor/bre"
	"redactor/cell"
	"redactor/tree"
)

func TestExample(t *testing.T) {
	a := askPlain(t)
	x, e, at := bre.Parse(cell.Of(`a\(b*\)`), a.table)
	if tree.Print(x) != "'a(1:'b*0,-1)" || x.Groups != 1 || len(x.Nodes) != 5 || e != api.OK || at != 0 {
		t.Errorf("%s, %d, %d", tree.Print(x), e, at)
	}
}

// reads expects what a pattern is.
func (a asking) reads(text, want string) {
	a.Helper()
	l := cell.Of(text)
	x, e, at := bre.Parse(l, a.table)
	if tree.Print(x) != want || e != api.OK || at != 0 {
		a.Errorf("Parse(%s) = %s, %d, %d, want %s", text, tree.Print(x), e, at, want)
	}
	a.expect(l)
}

// refuses expects why cells are no pattern, and where, whatever stands ahead of them.
func (a asking) refuses(text string, err api.Errno, wrong int) {
	a.Helper()
	for _, ahead := range []string{"", `\(`, `\(\(`, `\(^`, `x\(a*\)\(`, `[]]^\(`} {
		l := cell.Of(ahead + text)
		x, e, at := bre.Parse(l, a.table)
		if len(x.Nodes) != 0 || x.Groups != 0 || e != err || at != len(ahead)+wrong {
			a.Errorf("Parse(%s) = %s, %d, %d, want %d, %d", cell.Text(l), tree.Print(x), e, at, err, len(ahead)+wrong)
		}
		a.expect(l)
	}
}

func TestRows(t *testing.T) {
	a := askPlain(t)
	for text, want := range map[string]string{
		"": "()", "a": "'a", "ab": "'a'b", "abc": "'a'b'c", "aé\xff\n": `'a'\u{e9}'\xff'\n`,
		".": ".", "a.b": "'a.'b", "..": "..",
		// Signs of other patterns, and of what stands behind an escape, are cells.
		"(a)": "'('a')", "a|b": "'a'|'b", "a+?": "'a'+'?", "{1}": "'{'1'}", "a{1,2}": "'a'{'1','2'}", "]": "']", "a]-": "'a']'-", "n/,0": "'n'/','0", "()": "'(')", "\x00": `'\u{0}`, "&": "'&",
	} {
		a.reads(text, want)
	}
}

// Nodes stand in the order in which they end, each row behind all of its pieces, and ahead of its group.
func TestOrderOfNodes(t *testing.T) {
	a := askPlain(t)
	x, e, _ := bre.Parse(cell.Of(`^a*\{2\}\(b\(\)c\)\1.[x]$`), a.table)
	want := api.Tree{Groups: 2, Nodes: []api.Node{
		{Kind: api.Begin},
		{Kind: api.One, Cell: 'a'},
		{Kind: api.Times, Min: 0, Max: -1, Kids: []int{1}},
		{Kind: api.Times, Min: 2, Max: 2, Kids: []int{2}},
		{Kind: api.One, Cell: 'b'},
		{Kind: api.Empty},
		{Kind: api.Group, N: 2, Kids: []int{5}},
		{Kind: api.One, Cell: 'c'},
		{Kind: api.Row, Kids: []int{4, 6, 7}},
		{Kind: api.Group, N: 1, Kids: []int{8}},
		{Kind: api.Back, N: 1},
		{Kind: api.Any},
		{Kind: api.Set, Set: api.Bracket{Ranges: []api.Range{{Low: 'x', High: 'x'}}}},
		{Kind: api.End},
		{Kind: api.Row, Kids: []int{0, 3, 9, 10, 11, 12, 13}},
	}}
	if !same(x, want) || e != api.OK {
		t.Errorf("%v, %d", x, e)
	}
}

func TestGroups(t *testing.T) {
	a := askPlain(t)
	for text, want := range map[string]string{
		`\(\)`: "(1:())", `\(a\)`: "(1:'a)", `\(ab\)c`: "(1:'a'b)'c", `a\(b\)`: "'a(1:'b)", `\(a\)\(b\)`: "(1:'a)(2:'b)",
		// Numbers are by beginnings, and not by ends.
		`\(\(a\)\)`: "(1:(2:'a))", `\(\(a\)\(b\)\)\(c\)`: "(1:(2:'a)(3:'b))(4:'c)", `\(a\(b\(c\)\)\)`: "(1:'a(2:'b(3:'c)))", `\(\(\(\)\)\)\(\)`: "(1:(2:(3:())))(4:())",
		`\(a\)*`: "(1:'a)*0,-1", `\(a*\)*`: "(1:'a*0,-1)*0,-1", `\(\)*`: "(1:())*0,-1", `\(a\)\{2\}`: "(1:'a)*2,2", `\(a\)\(b\)*`: "(1:'a)(2:'b)*0,-1",
		`\((\))`: "(1:'()')", `[\(]\(a\)`: `[\\-\\ (-( ](1:'a)`,
	} {
		a.reads(text, want)
	}
	for text, at := range map[string]int{
		// The innermost one that has no end is told.
		`\(`: 0, `a\(`: 1, `\(a`: 0, `\(a\(b\)`: 0, `\(\(`: 2, `\(a\(b`: 3, `\(a\)\(b`: 5, `\(()`: 0, `\([)]`: 0, `\(\\)`: 0, `\([\)]`: 0, `\(*`: 0, `\(^`: 0, `\($`: 0, `\(a\{1\}`: 0,
	} {
		a.refuses(text, api.ErrParen, at)
	}
	for text, at := range map[string]int{`\)`: 0, `a\)`: 1, `\(a\)\)`: 5, `\)\(`: 0, `^\)`: 1, `$\)`: 1, `a*\)`: 2, `\(\)\)`: 4, `a\)\)`: 1, `\)*`: 0, `\)[`: 0, `\)\`: 0} {
		x, e, wrong := bre.Parse(cell.Of(text), a.table)
		if len(x.Nodes) != 0 || e != api.ErrParen || wrong != at {
			t.Errorf("Parse(%s) = %s, %d, %d, want %d", text, tree.Print(x), e, wrong, at)
		}
		a.expect(cell.Of(text))
	}
}

func TestManyGroups(t *testing.T) {
	a := askPlain(t)
	within := strings.Repeat(`\(`, 9)
	shut := strings.Repeat(`\)`, 9)
	a.reads(strings.Repeat(`\(\)`, 9), "(1:())(2:())(3:())(4:())(5:())(6:())(7:())(8:())(9:())")
	a.reads(within+shut, "(1:(2:(3:(4:(5:(6:(7:(8:(9:())))))))))")
	a.reads(within+shut+`\9\1`, "(1:(2:(3:(4:(5:(6:(7:(8:(9:())))))))))#9#1")
	for text, want := range map[string]int{
		strings.Repeat(`\(\)`, 10): 36, strings.Repeat(`\(\)`, 12): 36, within + `\(`: 18, within + shut + `\(\)`: 36, within + `a\()`: 19, within + shut + `\(`: 36, strings.Repeat(`\(`, 60): 18, strings.Repeat(`\(`, 100): 18, strings.Repeat(`\(`, 40) + strings.Repeat(`\)`, 40): 18, `\(\)` + within: 20, within + `\(\}`: 18, within + `\([`: 18,
	} {
		x, e, at := bre.Parse(cell.Of(text), a.table)
		if len(x.Nodes) != 0 || x.Groups != 0 || e != api.ErrLong || at != want {
			t.Errorf("Parse(%s) = %s, %d, %d, want %d", text, tree.Print(x), e, at, want)
		}
		a.expect(cell.Of(text))
	}
}

func TestBeginAndEnd(t *testing.T) {
	a := askPlain(t)
	for text, want := range map[string]string{
		"^": "^", "$": "$", "^$": "^$", "^a": "^'a", "a$": "'a$", "^a$": "^'a$", "$^": "'$'^", "^^": "^'^", "$$": "'$$", "^^^": "^'^'^", "$$$": "'$'$$", "^$^$": "^'$'^$",
		"a^": "'a'^", "a^b": "'a'^'b", "$a": "'$'a", "a$b": "'a'$'b", "a*^": "'a*0,-1'^", ".^": ".'^", "[a]^": "[a-a ]'^", "a*$": "'a*0,-1$", "[a]$": "[a-a ]$",
		// A group has a row of its own.
		`\(^\)`: "(1:^)", `\($\)`: "(1:$)", `\(^$\)`: "(1:^$)", `\(^a$\)`: "(1:^'a$)", `a\(^b\)`: "'a(1:^'b)", `\(a$\)b`: "(1:'a$)'b", `^\(^a\)`: "^(1:^'a)", `\(a$\)$`: "(1:'a$)$", `\(a\)^`: "(1:'a)'^", `$\(a\)`: "'$(1:'a)", `\($^\)`: "(1:'$'^)", `\(\(^a\)$\)`: "(1:(2:^'a)$)", `\(a^\)`: "(1:'a'^)", `\(^^\)`: "(1:^'^)", `\($$\)`: "(1:'$$)", `\(a\)\(^\)`: "(1:'a)(2:^)",
		// Only what ends a group is ahead of the end of its row.
		`$\\)`: `'$'\\')`, `$\(\)`: "'$(1:())", `$)`: "'$')", `a$\*`: "'a'$'*", `$\n`: `'$'\n`,
		// Behind an escape, and within brackets, they are cells.
		`\^`: "'^", `\$`: "'$", `\^a\$`: "'^'a'$", `\^*`: "'^*0,-1", `\$*`: "'$*0,-1", "[$^]": "[$-$ ^-^ ]", `a\$`: "'a'$", `\\^`: `'\\'^`, `\\$`: `'\\$`,
		// Where they are cells, they are repeated.
		"a^*": "'a'^*0,-1", "$*": "'$*0,-1", "$*a": "'$*0,-1'a", "^^*": "^'^*0,-1", `a^\{2\}`: "'a'^*2,2", `$\{2\}`: "'$*2,2", "$*$": "'$*0,-1$", `\($*\)`: "(1:'$*0,-1)", `a$*\{2\}`: "'a'$*0,-1*2,2",
	} {
		a.reads(text, want)
	}
}

func TestStars(t *testing.T) {
	a := askPlain(t)
	for text, want := range map[string]string{
		"a*": "'a*0,-1", "a*b*": "'a*0,-1'b*0,-1", ".*": ".*0,-1", "[a]*": "[a-a ]*0,-1", `\(a\)\1*`: "(1:'a)#1*0,-1", `\n*`: `'\n*0,-1`, `\.*`: "'.*0,-1", "é*": `'\u{e9}*0,-1`, "a**": "'a*0,-1*0,-1", "a***": "'a*0,-1*0,-1*0,-1",
		"*": "'*", "**": "'**0,-1", "***": "'**0,-1*0,-1", "*a": "'*'a", "*a*": "'*'a*0,-1", `*\{2\}`: "'**2,2",
		"^*": "^'*", "^**": "^'**0,-1", "^*a": "^'*'a", "^*$": "^'*$", `^*\{1,\}`: "^'**1,-1",
		`\(*\)`: "(1:'*)", `\(**\)`: "(1:'**0,-1)", `\(^*\)`: "(1:^'*)", `\(^**\)`: "(1:^'**0,-1)", `a\(*b\)`: "'a(1:'*'b)", `\(a\)\(*\)`: "(1:'a)(2:'*)", `\(*a\)*`: "(1:'*'a)*0,-1",
		`\*`: "'*", `\**`: "'**0,-1", `a\*`: "'a'*", "[*]": "[*-* ]", "[*]*": "[*-* ]*0,-1", `^\**`: "^'**0,-1",
	} {
		a.reads(text, want)
	}
}

func TestIntervals(t *testing.T) {
	a := askPlain(t)
	for text, want := range map[string]string{
		`a\{0\}`: "'a*0,0", `a\{1\}`: "'a*1,1", `a\{255\}`: "'a*255,255", `a\{007\}`: "'a*7,7", `a\{000\}`: "'a*0,0", `a\{00\}`: "'a*0,0", `a\{25\}`: "'a*25,25",
		`a\{0,\}`: "'a*0,-1", `a\{3,\}`: "'a*3,-1", `a\{255,\}`: "'a*255,-1", `a\{003,\}`: "'a*3,-1",
		`a\{0,0\}`: "'a*0,0", `a\{0,1\}`: "'a*0,1", `a\{2,3\}`: "'a*2,3", `a\{3,3\}`: "'a*3,3", `a\{255,255\}`: "'a*255,255", `a\{0,255\}`: "'a*0,255", `a\{9,10\}`: "'a*9,10", `a\{001,010\}`: "'a*1,10",
		`.\{2\}`: ".*2,2", `[a]\{2\}`: "[a-a ]*2,2", `\(a\)\{2\}`: "(1:'a)*2,2", `\(a\)\1\{2\}`: "(1:'a)#1*2,2", `\n\{2\}`: `'\n*2,2`, `\\\{2\}`: `'\\*2,2`,
		`a\{1\}\{2\}`: "'a*1,1*2,2", `a*\{2\}`: "'a*0,-1*2,2", `a\{2\}*`: "'a*2,2*0,-1", `a\{1,2\}b\{3,\}`: "'a*1,2'b*3,-1", `a\{1\}2`: "'a*1,1'2", `a\{1\}^`: "'a*1,1'^", `a\{1\}$`: "'a*1,1$", `a\{1\},2`: "'a*1,1','2",
		`a{2\\}`: `'a'{'2'\\'}`, `\\{2}`: `'\\'{'2'}`,
	} {
		a.reads(text, want)
	}
	for text, at := range map[string]int{
		// Numbers.
		`a\{\}`: 1, `a\{,\}`: 1, `a\{,2\}`: 1, `a\{256\}`: 1, `a\{256,\}`: 1, `a\{1,256\}`: 1, `a\{999\}`: 1, `a\{999,999\}`: 1, `a\{300,1\}`: 1, `a\{0000\}`: 1, `a\{0001\}`: 1, `a\{0255\}`: 1, `a\{1000\}`: 1, `a\{2550\}`: 1, `a\{0,0001\}`: 1, `a\{0001,\}`: 1, `a\{1,1000\}`: 1,
		`a\{2,1\}`: 1, `a\{1,0\}`: 1, `a\{255,254\}`: 1, `a\{10,9\}`: 1,
		// Other cells within.
		`a\{x\}`: 1, `a\{1x\}`: 1, `a\{x1\}`: 1, `a\{1,x\}`: 1, `a\{1,2x\}`: 1, `a\{ 1\}`: 1, `a\{1 \}`: 1, `a\{1, 2\}`: 1, `a\{-1\}`: 1, `a\{+1\}`: 1, `a\{1,,\}`: 1, `a\{1,2,\}`: 1, `a\{1,2,3\}`: 1, `a\{1;2\}`: 1, `a\{²\}`: 1, "a\\{\xff\\}": 1, `a\{1\{1\}\}`: 1, `a\{[1]\}`: 1, `a\{1\n\}`: 1, `a\{1\)`: 1, `a\{\1\}`: 1, `a\{1,\1\}`: 1, `a\{/\}`: 1, `a\{:\}`: 1, `a\{1/\}`: 1, `a\{1:\}`: 1,
		// The end.
		`a\{`: 1, `a\{1`: 1, `a\{1,`: 1, `a\{1,2`: 1, `a\{1\`: 1, `a\{1,\`: 1, `a\{1,2\`: 1, `a\{\`: 1, `a\{1}`: 1, `a\{1,}`: 1, `a\{1,2}`: 1, `a\{12`: 1, `a\{123`: 1, `a\{1234`: 1,
		// No atom stands ahead.
		`\{1\}`: 0, `\{`: 0, `\{1,2\}`: 0, `\{x`: 0, `\{300\}`: 0, `ab\(\{1\}\)`: 4, `a\(b\)\(\{1\}`: 8, `\(\{1\}\)`: 2,
		// What ends one may not stand alone.
		`\}`: 0, `a\}`: 1, `a*\}`: 2, `a\{1\}\}`: 6, `a\{1\}b\}`: 7, `^\}`: 1, `\(a\}`: 3, `\(\}\)`: 2, `[a]\}`: 3, `$\}`: 1, `\}\{`: 0, `\{\}`: 0,
	} {
		a.refuses(text, api.ErrTimes, at)
	}
	for text, at := range map[string]int{`^\{1\}`: 1, `^\{`: 1, `\(^\{1\}\)`: 3, `a\(^\{2,1\}\)`: 4, `^\{1,2\}*`: 1} {
		x, e, wrong := bre.Parse(cell.Of(text), a.table)
		if len(x.Nodes) != 0 || e != api.ErrTimes || wrong != at {
			t.Errorf("Parse(%s) = %s, %d, %d, want %d", text, tree.Print(x), e, wrong, at)
		}
		a.expect(cell.Of(text))
	}
}

// Each number that may be, and none else.
func TestEachNumber(t *testing.T) {
	a := askPlain(t)
	for n := range 1100 {
		s := strconv.Itoa(n)
		for _, text := range []string{`a\{` + s + `\}`, `a\{` + s + `,\}`, `a\{0,` + s + `\}`, `a\{` + s + `,` + s + `\}`, `a\{` + s + `,254\}`} {
			a.expect(cell.Of(text))
		}
		x, e, _ := bre.Parse(cell.Of(`a\{`+s+`\}`), a.table)
		if is := e == api.OK; is != (n <= 255) || is && (x.Nodes[1].Min != n || x.Nodes[1].Max != n) {
			t.Errorf("of %d: %s, %d", n, tree.Print(x), e)
		}
	}
}

func TestBacks(t *testing.T) {
	a := askPlain(t)
	for text, want := range map[string]string{
		`\(a\)\1`: "(1:'a)#1", `\(a\)b\1c`: "(1:'a)'b#1'c", `\(a\)\1\1`: "(1:'a)#1#1", `\(a\)\(b\)\2\1`: "(1:'a)(2:'b)#2#1", `\(a\)\(\1\)\2`: "(1:'a)(2:#1)#2", `\(\(a\)\2\)\1`: "(1:(2:'a)#2)#1", `\(\)\1`: "(1:())#1", `\(a\)\10`: "(1:'a)#1'0", `\(a\)\1\{2\}`: "(1:'a)#1*2,2", `\(a\)*\1`: "(1:'a)*0,-1#1", `\(a\)\(b\(c\)\3\)\1`: "(1:'a)(2:'b(3:'c)#3)#1",
		`\\1`: `'\\'1`, `[\1]`: `[\\-\\ 1-1 ]`, `1`: "'1",
	} {
		a.reads(text, want)
	}
	nine := strings.Repeat(`\(\)`, 9)
	for n := 1; n <= 9; n++ {
		s := strconv.Itoa(n)
		a.reads(nine+`\`+s, "(1:())(2:())(3:())(4:())(5:())(6:())(7:())(8:())(9:())#"+s)
		ahead := nine[:4*(n-1)]
		for _, text := range []string{`\` + s, `\` + s + `\(\)`, `\(\` + s + `\)`, `\(a\` + s, `\(^\` + s + `*\)`} {
			l := cell.Of(ahead + text)
			x, e, at := bre.Parse(l, a.table)
			want, wantAt := api.ErrRef, len(ahead)+strings.Index(text, `\`+s)
			if len(x.Nodes) != 0 || e != want || at != wantAt {
				t.Errorf("Parse(%s) = %s, %d, %d, want %d, %d", cell.Text(l), tree.Print(x), e, at, want, wantAt)
			}
			a.expect(l)
		}
	}
	for text, at := range map[string]int{`\9`: 0, `a\8`: 1, `\9*`: 0, `\(a\(b\)\9`: 8, `\9\}`: 0, `\9[`: 0, `\9\)`: 0} {
		a.refuses(text, api.ErrRef, at)
	}
}

func TestEscapes(t *testing.T) {
	a := askPlain(t)
	for text, want := range map[string]string{
		`\.`: "'.", `\[`: "'[", `\]`: "']", `\*`: "'*", `\^`: "'^", `\$`: "'$", `\/`: "'/", `\\`: `'\\`, `\n`: `'\n`,
		`a\.b\[c\]`: "'a'.'b'['c']", `\\\\`: `'\\'\\`, `\\n`: `'\\'n`, `\[a]`: "'['a']", `\n\n`: `'\n'\n`, `\\*`: `'\\*0,-1`, `\\(`: `'\\'(`, `\\\(\)`: `'\\(1:())`, `[\n]`: `[\\-\\ n-n ]`,
	} {
		a.reads(text, want)
	}
	// Each cell, behind an escape.
	for c := range api.Cell(0x100) {
		l := []api.Cell{'a', '\\', c, 'b'}
		x, e, at := bre.Parse(l, a.table)
		wantE, wantAt := api.ErrForm, 1
		switch {
		case strings.ContainsRune(`.[]*^$/\n`, rune(c)):
			wantE, wantAt = api.OK, 0
			own := c
			if c == 'n' {
				own = 0x0a
			}
			if len(x.Nodes) != 4 || x.Nodes[1].Cell != own || x.Nodes[1].Kind != api.One {
				t.Errorf("Parse(%s) = %s", cell.Text(l), tree.Print(x))
			}
		case c == '(' || c == ')':
			wantE = api.ErrParen
		case c == '{' || c == '}':
			wantE = api.ErrTimes
		case c >= '1' && c <= '9':
			wantE = api.ErrRef
		}
		if e != wantE || at != wantAt {
			t.Errorf("Parse(%s): %d, %d, want %d, %d", cell.Text(l), e, at, wantE, wantAt)
		}
		a.expect(l)
		a.expect(l[1:])
		a.expect(l[1:3])
		// By itself it is what it is.
		a.expect([]api.Cell{c})
		a.expect([]api.Cell{'a', c, 'b'})
	}
	for text, at := range map[string]int{`\`: 0, `a\`: 1, `a*\`: 2, `\\\`: 2, `\0`: 0, `a\x`: 1, `\+`: 0, `\?`: 0, `\|`: 0, `\-`: 0, `\ `: 0, "\\\n": 0, "\\\x00": 0, `\é`: 0, "\\\xff": 0, `\N`: 0, `\t`: 0, `\"`: 0, `\,`: 0, `\x\`: 0, `\&`: 0} {
		a.refuses(text, api.ErrForm, at)
	}
	for _, c := range []api.Cell{-1, -91, -256, -257, 0xd800, 0x110000, math.MaxInt32, math.MinInt32, '.' - 256, '.' + 256, '\\' - 256, '1' + 256, 'n' - 256, '(' + 0x10000} {
		l := []api.Cell{'\\', c}
		if x, e, at := bre.Parse(l, a.table); len(x.Nodes) != 0 || e != api.ErrForm || at != 0 {
			t.Errorf("Parse(%v) = %v, %d, %d", l, x, e, at)
		}
	}
}

func TestSets(t *testing.T) {
	plain, whole := askPlain(t), askWhole(t)
	for text, want := range map[string]string{
		"[a]": "[a-a ]", "[^a]": "[^a-a ]", "[]]": "[]-] ]", "[]a]b]": "[]-] a-a ]'b']", "[a-c]": "[a-a b-b c-c ]", "x[[:digit:]]y": "'x[0-9 ]'y", "[[.a.]]]": "[a-a ]']", `[\]`: `[\\-\\ ]`, `[\]]`: `[\\-\\ ]']`, `[\)]`: `[\\-\\ )-) ]`, `\([\)]\)`: `(1:[\\-\\ )-) ])`, "[*]": "[*-* ]", "[a]*[b]": "[a-a ]*0,-1[b-b ]", "[[]": "[[-[ ]", "[a][b]": "[a-a ][b-b ]", `\[a]`: "'['a']", `[\{]\{2\}`: `[\\-\\ {-{ ]*2,2`, "[^^]": "[^^-^ ]", "[.]": "[.-. ]", "[$]": "[$-$ ]",
	} {
		plain.reads(text, want)
	}
	for text, want := range map[string]string{"[[.ch.]]": "[=ch ]", "[[=c=]x]": "[c-c x-x =ch ]", "[^[.ch.]]": "[^]", "[[:vowel:]]": "[a-a e-i o-o ]", `\([[.odd.]]\)`: `(1:[=\\) ])`, `[[.\).]]`: `[=\\) ]`, "[a-á]*": `[a-a \u{e1}-\u{e1} ]*0,-1`} {
		whole.reads(text, want)
	}
	for text, want := range map[string]struct {
		err api.Errno
		at  int
	}{
		"[": {30, 1}, "a[": {30, 2}, "[]": {30, 2}, "[^": {30, 2}, "[^]": {30, 3}, "[a": {30, 2}, "[a-": {30, 3}, "[[:digit:]": {30, 10}, "[[:digit]": {30, 9}, "[[.a]]": {30, 6}, `\([a\)`: {30, 6}, `\(a\([]`: {30, 7}, `[a\`: {30, 3}, "[a]*[": {30, 5},
		"[[:none:]]": {31, 1}, "a[b[:none:]]": {31, 3}, "[[.xx.]]": {31, 1}, "[[=xx=]]": {31, 1}, "[^[:none:]": {31, 2}, "[x][[:none:]]": {31, 4},
		"[c-a]": {40, 2}, "a[xc-a]": {40, 4}, "[a-[:digit:]]": {40, 2}, "[b][c-a": {40, 5}, `\(x\)[é-a]`: {40, 7},
	} {
		plain.refuses(text, want.err, want.at)
	}
	// Without a table a set may be of cells alone.
	if x, e, _ := bre.Parse(cell.Of(`a\(.[]^]*\)\1`), nil); tree.Print(x) != "'a(1:.[]-] ^-^ ]*0,-1)#1" || e != api.OK {
		t.Errorf("%s, %d", tree.Print(x), e)
	}
}

func TestErrLong(t *testing.T) {
	a := askPlain(t)
	for _, x := range []struct {
		text  string
		err   api.Errno
		nodes int
	}{
		{strings.Repeat("a", 199), api.OK, 200}, {strings.Repeat("a", 200), api.ErrLong, 0}, {strings.Repeat("a", 201), api.ErrLong, 0},
		{strings.Repeat("a*", 99), api.OK, 199}, {strings.Repeat("a*", 99) + "b", api.OK, 200}, {strings.Repeat("a*", 100), api.ErrLong, 0}, {strings.Repeat("a*", 99) + "b*", api.ErrLong, 0}, {strings.Repeat("*", 200), api.OK, 200}, {"a" + strings.Repeat("*", 199), api.OK, 200}, {"a" + strings.Repeat("*", 198) + "b", api.ErrLong, 0},
		{`\(` + strings.Repeat("a", 196) + `\)`, api.OK, 198}, {`\(\)` + strings.Repeat("a", 196), api.OK, 199}, {`\(\)*` + strings.Repeat("a", 195), api.OK, 199}, {`^\(\)*` + strings.Repeat("a", 194), api.OK, 199}, {strings.Repeat(`\(\)`, 9) + strings.Repeat("a", 164), api.OK, 183},
		{"[" + strings.Repeat("a", 198) + "]", api.OK, 1}, {"[" + strings.Repeat("a", 199) + "]", api.ErrLong, 0}, {strings.Repeat(`\.`, 100), api.OK, 101}, {strings.Repeat(`\.`, 100) + "a", api.ErrLong, 0},
		{strings.Repeat("a", 193) + `\{1\}x`, api.OK, 196}, {strings.Repeat("a", 193) + `\{12\}x`, api.OK, 196}, {strings.Repeat("a", 193) + `\{12\}xy`, api.ErrLong, 0},
		// More cells go ahead of all else that is wrong.
		{`\}` + strings.Repeat("a", 199), api.ErrLong, 0}, {strings.Repeat("[", 201), api.ErrLong, 0}, {strings.Repeat(`\(`, 101), api.ErrLong, 0}, {strings.Repeat("a", 200) + `\`, api.ErrLong, 0},
		// More nodes are found at the end, behind all that is wrong.
		{strings.Repeat("a", 198) + `\}`, api.ErrTimes, 198}, {strings.Repeat("a", 199) + `\`, api.ErrForm, 199}, {strings.Repeat("a", 199) + "[", api.ErrForm, 200}, {strings.Repeat("a*", 99) + `\1`, api.ErrRef, 198}, {strings.Repeat("a*", 99) + `\)`, api.ErrParen, 198}, {strings.Repeat("a*", 99) + `\(`, api.ErrParen, 198}, {`\(` + strings.Repeat("a", 198), api.ErrParen, 0},
	} {
		got, e, at := bre.Parse(cell.Of(x.text), a.table)
		wantAt := 0
		if x.err != api.OK {
			wantAt, x.nodes = x.nodes, 0
		}
		if e != x.err || at != wantAt || len(got.Nodes) != x.nodes {
			t.Errorf("Parse(%s): %d nodes, %d, %d, want %d, %d, %d", x.text, len(got.Nodes), e, at, x.nodes, x.err, wantAt)
		}
		a.expect(cell.Of(x.text))
	}
}

// What is no cell makes a tree that is not right, unless something else is wrong.
func TestNoCells(t *testing.T) {
	a := askPlain(t)
	for _, c := range []api.Cell{-257, 0xd800, 0xdfff, 0x110000, math.MaxInt32, math.MinInt32} {
		for _, l := range [][]api.Cell{{c}, {'a', c}, {c, '*'}, {'\\', '(', c, '\\', ')'}, {'[', c, ']'}, {'[', '^', c, ']'}, {'[', 'a', '-', c, ']'}} {
			x, e, at := bre.Parse(l, a.table)
			wantE, wantAt := api.ErrLong, 0
			if len(l) == 5 && l[2] == '-' && c < 0 {
				wantE, wantAt = api.ErrRange, 2
			}
			if len(x.Nodes) != 0 || x.Groups != 0 || e != wantE || at != wantAt {
				t.Errorf("Parse(%v) = %v, %d, %d, want %d, %d", l, x, e, at, wantE, wantAt)
			}
		}
		if _, e, at := bre.Parse([]api.Cell{c, '\\', '}'}, a.table); e != api.ErrTimes || at != 1 {
			t.Errorf("of what is no cell, and more: %d, %d", e, at)
		}
	}
}

// All small patterns, of cells and of what stands behind one another.
func TestAllSmall(t *testing.T) {
	a := askPlain(t)
	var all func(bits []string, ahead []api.Cell, most int)
	all = func(bits []string, ahead []api.Cell, most int) {
		a.expect(ahead)
		if most == 0 {
			return
		}
		for _, b := range bits {
			all(bits, append(slices.Clone(ahead), cell.Of(b)...), most-1)
		}
	}
	all(strings.Split(`\(){}1,*^$a[]`, ""), nil, 4)
	all(strings.Fields(`\( \) * ^ $ \{1\} \1 a`), nil, 5)
	all(strings.Fields(`\( \) * ^ $ \{0,2\} \{ \} . [b] [ ] \2 \ 3 \n`), nil, 3)
}

func TestRandomPatterns(t *testing.T) {
	r := rand.New(rand.NewSource(31))
	seen := map[api.Errno]int{}
	for _, a := range []asking{askPlain(t), askWhole(t)} {
		for range 20000 {
			_, e := a.expect(someText(r))
			seen[e]++
		}
	}
	for _, e := range []api.Errno{api.OK, api.ErrLong, api.ErrForm, api.ErrName, api.ErrRange, api.ErrParen, api.ErrTimes, api.ErrRef} {
		if seen[e] < 10 {
			t.Errorf("%d was seen %d times", e, seen[e])
		}
	}
}

// writing makes a pattern of a tree that it builds meanwhile.
type writing struct {
	*tree.Builder
	*rand.Rand
	asking
	text  []api.Cell
	begun int
	ended []int
}

func (w *writing) write(s string) { w.text = append(w.text, cell.Of(s)...) }

func (w *writing) row(deep int) int {
	var kids []int
	if w.Intn(4) == 0 {
		w.write("^")
		kids = append(kids, w.Leaf(api.Node{Kind: api.Begin}))
	}
	for range w.Intn(5) {
		kids = append(kids, w.piece(deep))
	}
	if w.Intn(4) == 0 {
		w.write("$")
		kids = append(kids, w.Leaf(api.Node{Kind: api.End}))
	}
	return w.Row(kids...)
}

func (w *writing) piece(deep int) int {
	kid := w.atom(deep)
	for w.Intn(3) == 0 {
		least, most := w.Intn(256), w.Intn(256)
		switch w.Intn(4) {
		case 0:
			w.write("*")
			least, most = 0, -1
		case 1:
			w.write(`\{` + strconv.Itoa(least) + `\}`)
			most = least
		case 2:
			w.write(`\{` + strconv.Itoa(least) + `,\}`)
			most = -1
		default:
			least, most = min(least, most), max(least, most)
			w.write(`\{` + strconv.Itoa(least) + `,` + strconv.Itoa(most) + `\}`)
		}
		kid = w.Times(kid, least, most)
	}
	return kid
}

func (w *writing) atom(deep int) int {
	switch n := w.Intn(8); {
	case n == 0:
		w.write(".")
		return w.Leaf(api.Node{Kind: api.Any})
	case n == 1:
		s := []string{"]x]", "^a-c]", "[:digit:]*]", `\]`, "[=a=]]"}[w.Intn(5)]
		set, _, _, _ := bracket.Parse(cell.Of(s), 0, w.table)
		w.write("[" + s)
		return w.Leaf(api.Node{Kind: api.Set, Set: set})
	case n == 2 && len(w.ended) > 0:
		number := w.ended[w.Intn(len(w.ended))]
		w.write(`\` + strconv.Itoa(number))
		return w.Leaf(api.Node{Kind: api.Back, N: number})
	case n <= 4 && w.begun < 9 && deep < 4:
		w.begun++
		number := w.begun
		w.write(`\(`)
		kid := w.row(deep + 1)
		w.write(`\)`)
		w.ended = append(w.ended, number)
		return w.Group(number, kid)
	case n == 5:
		w.write(`\n`)
		return w.Leaf(api.Node{Kind: api.One, Cell: '\n'})
	case n == 6:
		s := `.[]*^$/\`[w.Intn(8):][:1]
		w.write(`\` + s)
		return w.Leaf(api.Node{Kind: api.One, Cell: api.Cell(s[0])})
	}
	c := []api.Cell{'a', 0x110 - 1, '(', ')', '{', '}', '+', '?', '|', '1', 'n', ']', '/', ',', -7, '\n', 0, 0x10ffff}[w.Intn(18)]
	w.text = append(w.text, c)
	return w.Leaf(api.Node{Kind: api.One, Cell: c})
}

// A pattern that is written of a tree is that tree.
func TestThereAndBack(t *testing.T) {
	r := rand.New(rand.NewSource(32))
	a := askPlain(t)
	for n := 0; n < 5000; {
		w := &writing{Builder: tree.New(), Rand: r, asking: a}
		w.row(0)
		if len(w.text) > 200 {
			continue
		}
		n++
		x, e, at := bre.Parse(w.text, a.table)
		if want := w.Tree(); e != api.OK || at != 0 || !same(x, want) || x.Groups != w.begun || !tree.Right(x) {
			t.Fatalf("Parse(%s) = %s, %d, %d, want %s", cell.Text(w.text), tree.Print(x), e, at, tree.Print(want))
		}
	}
}
