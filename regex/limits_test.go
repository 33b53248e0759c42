package regex

import (
	"strings"
	"testing"

	"doffer/api"
	"doffer/tree"
)

// deeps are texts of so many levels, each in its own way.
var deeps = []func(levels int) string{
	func(levels int) string { return "a" + strings.Repeat("*", levels-1) },
	func(levels int) string { return strings.Repeat("(", levels-1) + "a" + strings.Repeat(")?", levels-1) },
	func(levels int) string { return strings.Repeat("(", levels-1) + "a" + strings.Repeat(")b", levels-1) },
	func(levels int) string { return strings.Repeat("b(", levels-1) + "a" + strings.Repeat(")", levels-1) },
	func(levels int) string { return strings.Repeat("b(", levels-1) + strings.Repeat(")", levels-1) },
	func(levels int) string { return strings.Repeat("(", levels-1) + strings.Repeat(")|", levels-1) },
	func(levels int) string {
		return strings.Repeat("b|(", levels-1) + "{n}" + strings.Repeat(")", levels-1)
	},
	func(levels int) string {
		return strings.Repeat("(((", levels-1) + "." + strings.Repeat(")){1,3})", levels-1)
	},
}

func TestLevels(t *testing.T) {
	for _, deep := range deeps {
		for levels := 1; levels < 60; levels++ {
			s := deep(levels)
			if levels > api.MaxDepth {
				fails(t, s, 0, api.ErrDepth)
			} else if n, _, err := Parse(s); err != nil || tree.Depth(n) != levels {
				t.Errorf("Parse(%s) is %v, %v, and not of %d levels", shown(s), n, err, levels)
			}
			check(t, s)
			check(t, "x|("+s+")")
			check(t, "("+s+")y")
			fails(t, s+"x)", len(s)+1, api.ErrForm)
			fails(t, "("+s, len(s)+1, api.ErrShort)
		}
	}
}

func TestParenthesesAreNoLevels(t *testing.T) {
	for _, deep := range []int{1, 23, 24, 25, 100, 1 << 16} {
		is(t, strings.Repeat("(", deep)+"a"+strings.Repeat(")", deep), one('a'))
		is(t, strings.Repeat("(", deep)+strings.Repeat(")", deep), cat())
		is(t, strings.Repeat("(", deep)+"a|b"+strings.Repeat(")", deep)+"*", rep(0, -1, alt(one('a'), one('b'))))
	}
}

func TestNodes(t *testing.T) {
	// Each makes so many nodes and one more.
	for _, s := range []func(nodes int) string{
		func(nodes int) string { return strings.Repeat("a", nodes) },
		func(nodes int) string { return "a" + strings.Repeat("|a", nodes-1) },
		func(nodes int) string { return strings.Repeat("|", nodes-1) },
		func(nodes int) string { return strings.Repeat("()", nodes) },
		func(nodes int) string { return strings.Repeat("{n}", nodes) },
		func(nodes int) string { return strings.Repeat("a*", nodes/2) + strings.Repeat(".", nodes%2) },
		func(nodes int) string { return strings.Repeat("[a]", nodes%2) + strings.Repeat("a{2}", nodes/2) },
		func(nodes int) string { return strings.Repeat("a|", nodes-4) + "bcd" },
		func(nodes int) string { return "bcd" + strings.Repeat("|a", nodes-4) },
		func(nodes int) string { return "(" + strings.Repeat("a|", nodes-3) + "b)c" },
	} {
		for nodes := 590; nodes < 610; nodes++ {
			text := s(nodes)
			if nodes+1 > api.MaxNodes {
				fails(t, text, 0, api.ErrLimit)
			} else if n, at, err := Parse(text); err != nil || at != len(text) || tree.Count(n) != nodes+1 {
				t.Errorf("Parse(%s) ends at %d with %v", shown(text), at, err)
			}
			check(t, text)
			fails(t, text+"b{0}", len(text)+2, api.ErrRange)
			fails(t, text+")", len(text), api.ErrForm)
			fails(t, "("+text, len(text)+1, api.ErrShort)
		}
	}
}

func TestBothLimits(t *testing.T) {
	many := strings.Repeat("a", 700)
	for _, deep := range deeps {
		s := "(" + deep(30) + ")"
		fails(t, s+many, 0, api.ErrDepth)
		fails(t, many+s, 0, api.ErrLimit)
		fails(t, many+"|"+s, 0, api.ErrLimit)
		fails(t, s+"|"+many, 0, api.ErrDepth)
	}
	for _, between := range []string{"", "|"} {
		for count := 568; count < 605; count++ {
			ahead := strings.Repeat("a"+between, count)
			for levels := 21; levels < 30; levels++ {
				for _, deep := range deeps[:3] {
					check(t, ahead+"("+deep(levels)+")")
					check(t, ahead+"("+deep(levels)+")"+between+"bcd"+between+"e")
					check(t, "("+ahead+deep(levels)+")?")
				}
			}
		}
	}
	// The last level's node is the walk's last one, one ahead of it, or one behind it.
	for _, w := range []struct {
		pieces, levels int
		err            error
	}{{576, 24, api.ErrDepth}, {577, 23, api.ErrLimit}, {577, 24, api.ErrLimit}, {575, 24, api.ErrDepth}, {578, 40, api.ErrLimit}} {
		fails(t, many[:w.pieces]+deeps[0](w.levels), 0, w.err)
	}
	s := many[:576] + deeps[0](23)
	if n, at, err := Parse(s); err != nil || at != len(s) || tree.Count(n) != api.MaxNodes || tree.Depth(n) != api.MaxDepth {
		t.Errorf("Parse(%s) = %v, %d, %v", shown(s), n, at, err)
	}
	check(t, s)
}

func TestManyPiecesAndBranches(t *testing.T) {
	for _, piece := range []string{"a", "a|", "|", "(a)", "(a|b)", "a*", "()", "ab|", "{n}", "(ab)?"} {
		for _, count := range []int{1, 599, 600, 601, 602, 2000} {
			s := strings.Repeat(piece, count)
			for _, end := range []string{"", "b", "b*", "b**", "(b)", "(b|c)*", "b{3}{n}", "|", "|b", "(((b*)c)*)d"} {
				check(t, s+end)
				check(t, "("+s+end+")")
				check(t, "x("+s+end+")*y")
			}
			for _, end := range []string{"b{41}", "b{0}", "{}", "{", ")", "]", "b*/", "(", `\`, `b\q`, "[", "[b-a]", "(*", "(|+", "b{3,2}", "b{3,x}"} {
				check(t, s+end)
				check(t, "("+s+end+")")
			}
		}
	}
}

func TestVeryLongTexts(t *testing.T) {
	const count = 1 << 18
	for _, w := range []struct {
		s   string
		at  int
		err error
	}{
		{strings.Repeat("a", count), 0, api.ErrLimit},
		{strings.Repeat("a", count) + ")", count, api.ErrForm},
		{strings.Repeat("a", count) + "{0}", count + 1, api.ErrRange},
		{"(" + strings.Repeat("a", count), count + 1, api.ErrShort},
		{strings.Repeat("|", count), 0, api.ErrLimit},
		{strings.Repeat("|", count) + "*", count, api.ErrForm},
		{strings.Repeat("(a)", count), 0, api.ErrLimit},
		{strings.Repeat("[a-z]", count), 0, api.ErrLimit},
		{strings.Repeat("a{2}", count), 0, api.ErrLimit},
		{strings.Repeat("{n}", count), 0, api.ErrLimit},
		{strings.Repeat("{n}", count) + "{", 3*count + 1, api.ErrShort},
		{"{" + strings.Repeat("n", count), count + 1, api.ErrShort},
		{"{" + strings.Repeat("n", count) + "}", 1, api.ErrName},
		{"a{" + strings.Repeat("1", count) + "}", 2, api.ErrRange},
		{"a{1," + strings.Repeat("0", count) + "}", 4, api.ErrRange},
		{"[" + strings.Repeat("a", count), count + 1, api.ErrShort},
		{strings.Repeat("{", count), count, api.ErrShort},
		{strings.Repeat("(", count), count, api.ErrShort},
		{strings.Repeat("(", count) + "*", count, api.ErrForm},
		{strings.Repeat(")", count), 0, api.ErrForm},
		{"a" + strings.Repeat("*", count), 0, api.ErrDepth},
		{"a" + strings.Repeat("*", count) + "]", count + 1, api.ErrForm},
		{"a" + strings.Repeat("{2}", count), 0, api.ErrDepth},
		{strings.Repeat("(", count) + "a" + strings.Repeat(")b", count), 0, api.ErrDepth},
		{strings.Repeat("a(", count) + strings.Repeat(")", count), 0, api.ErrDepth},
		{strings.Repeat("(|", count) + strings.Repeat(")", count) + ")", 3 * count, api.ErrForm},
		{strings.Repeat("(", count) + "a" + strings.Repeat(")", count), 2*count + 1, nil},
		{"[" + strings.Repeat("a", count) + "]", count + 2, nil},
	} {
		if n, at, err := Parse(w.s); at != w.at || err != w.err || err == nil && !alike(n, one('a')) {
			t.Errorf("Parse(%s) ends at %d with %v, want %d and %v", shown(w.s), at, err, w.at, w.err)
		}
	}
}
