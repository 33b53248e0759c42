package regex

import (
	"errors"
	"reflect"
	"strconv"
	"strings"
	"testing"

	"doffer/api"
	"doffer/brackets"
	"doffer/sets"
	"doffer/spell"
	"doffer/tree"
)

// is checks that a text is parsed as a tree.
func is(t *testing.T, s string, want tree.Node) {
	t.Helper()
	n, at, err := Parse(s)
	if err != nil || at != len(s) || !alike(n, want) {
		t.Errorf("Parse(%s) = %v, %d, %v, want %v", shown(s), n, at, err, want)
	}
	check(t, s)
}

// fails checks that a text ends with an error at a place, and that nothing is returned with it.
func fails(t *testing.T, s string, place int, want error) {
	t.Helper()
	n, at, err := Parse(s)
	if !errors.Is(err, want) || at != place || !reflect.DeepEqual(n, tree.Node{}) {
		t.Errorf("Parse(%s) = %v, %d, %v, want an error at %d: %v", shown(s), n, at, err, place, want)
	}
	check(t, s)
}

func TestChapterExamples(t *testing.T) {
	is(t, "a|b*", alt(one('a'), rep(0, -1, one('b'))))
	is(t, "a**", rep(0, -1, rep(0, -1, one('a'))))
}

func TestExpressions(t *testing.T) {
	a, b, c := one('a'), one('b'), one('c')
	none, ab := cat(), cat(a, b)
	star := rep(0, -1, a)
	for _, w := range []struct {
		s string
		n tree.Node
	}{
		{"", none}, {"()", none}, {"(())", none}, {"((()))", none}, {"()()", cat(none, none)}, {"a()", cat(a, none)}, {"()a", cat(none, a)}, {"()*", rep(0, -1, none)}, {"(){2}", rep(2, 2, none)},
		{"a", a}, {"ab", ab}, {"abc", cat(a, b, c)}, {"(a)", a}, {"((a))", a}, {"(ab)", ab}, {"(ab)c", cat(ab, c)}, {"a(bc)", cat(a, cat(b, c))}, {"(a)(b)", ab}, {"((a)b)", ab}, {"((ab))c", cat(ab, c)},
		{"a|b", alt(a, b)}, {"a|b|c", alt(a, b, c)}, {"ab|c", alt(ab, c)}, {"a|bc", alt(a, cat(b, c))}, {"a|a", alt(a, a)}, {"(a|b)", alt(a, b)}, {"(a)|(b)", alt(a, b)}, {"(a|b)|c", alt(alt(a, b), c)}, {"a|(b|c)", alt(a, alt(b, c))}, {"(a|b)c", cat(alt(a, b), c)}, {"a(b|c)", cat(a, alt(b, c))}, {"(a|b)(b|c)", cat(alt(a, b), alt(b, c))},
		{"|", alt(none, none)}, {"||", alt(none, none, none)}, {"|a", alt(none, a)}, {"a|", alt(a, none)}, {"a||b", alt(a, none, b)}, {"|a|", alt(none, a, none)}, {"(|)", alt(none, none)}, {"(|a)b", cat(alt(none, a), b)}, {"(a|)b", cat(alt(a, none), b)}, {"(a||b)*", rep(0, -1, alt(a, none, b))}, {"()|", alt(none, none)}, {"(|)|", alt(alt(none, none), none)}, {"()|a", alt(none, a)},
		{"a*", star}, {"a+", rep(1, -1, a)}, {"a?", rep(0, 1, a)}, {"a{2}", rep(2, 2, a)}, {"a{2,}", rep(2, -1, a)}, {"a{2,3}", rep(2, 3, a)},
		{"ab*", cat(a, rep(0, -1, b))}, {"a*b", cat(star, b)}, {"a*b+c?", cat(star, rep(1, -1, b), rep(0, 1, c))}, {"(ab)*", rep(0, -1, ab)}, {"(a|b)+", rep(1, -1, alt(a, b))}, {"a|b*", alt(a, rep(0, -1, b))}, {"a*|b", alt(star, b)}, {"(a*)*", rep(0, -1, star)}, {"(a*)", star}, {"(a*b)?c", cat(rep(0, 1, cat(star, b)), c)},
		{"a*?", rep(0, 1, star)}, {"a?*", rep(0, -1, rep(0, 1, a))}, {"a+*?{2}", rep(2, 2, rep(0, 1, rep(0, -1, rep(1, -1, a))))}, {"a{2}{3,}{0,4}", rep(0, 4, rep(3, -1, rep(2, 2, a)))}, {"a{2}*", rep(0, -1, rep(2, 2, a))}, {"ab{2}{3}c", cat(a, rep(3, 3, rep(2, 2, b)), c)},
		{"{n}", name("n")}, {"{n}{m}", cat(name("n"), name("m"))}, {"a{n}", cat(a, name("n"))}, {"{n}a", cat(name("n"), a)}, {"{n}*", rep(0, -1, name("n"))}, {"{n}{2}", rep(2, 2, name("n"))}, {"a{2}{n}", cat(rep(2, 2, a), name("n"))}, {"a{n}{2}", cat(a, rep(2, 2, name("n")))}, {"({n}|{m})", alt(name("n"), name("m"))}, {"(){n}", cat(none, name("n"))}, {"|{n}", alt(none, name("n"))}, {"a*{n}", cat(star, name("n"))},
		{"{a1}", name("a1")}, {"{abcdefghijkl}", name("abcdefghijkl")}, {"{a00000000000}", name("a00000000000")}, {"{z9}", name("z9")},
		{".", oneOfSet(brackets.Dot())}, {"..", cat(oneOfSet(brackets.Dot()), oneOfSet(brackets.Dot()))}, {".*", rep(0, -1, oneOfSet(brackets.Dot()))}, {`\.`, one('.')},
		{"[a]", a}, {"[a-c]", oneOfSet(sets.Span('a', 'c'))}, {"[^a]", oneOfSet(sets.One('a').Not())}, {"[a-c]+", rep(1, -1, oneOfSet(sets.Span('a', 'c')))}, {"[a][b]", ab}, {"[*+?(){}|.]", oneOfSet(sets.Of([]byte("*+?(){}|.")))}, {`[\]]`, one(']')}, {`[^\x00-\xff]`, oneOfSet(sets.Set{})}, {`[\x00-\xff]`, oneOfSet(sets.All())}, {`[^\n]`, oneOfSet(brackets.Dot())}, {"([a])", a},
		{`\n`, one(10)}, {`\t`, one(9)}, {`\r`, one(13)}, {`\s`, one(32)}, {`\x00`, one(0)}, {`\xfF`, one(255)}, {`\x2a*`, rep(0, -1, one('*'))}, {`\**`, rep(0, -1, one('*'))}, {`\\`, one('\\')}, {`\\*`, rep(0, -1, one('\\'))}, {`\(a\)`, cat(one('('), a, one(')'))}, {`\{`, one('{')}, {`a\{2\}`, cat(a, one('{'), one('2'), one('}'))}, {`\/`, one('/')}, {`a\|b`, cat(a, one('|'), b)}, {`\[a\]`, cat(one('['), a, one(']'))},
		{" ", one(' ')}, {"\n", one('\n')}, {"\x00", one(0)}, {"\xff", one(255)}, {";", one(';')}, {"-", one('-')}, {"^", one('^')}, {",", one(',')}, {"0", one('0')}, {"\u00e9", cat(one(0xc3), one(0xa9))},
	} {
		is(t, w.s, w.n)
	}
}

func TestErrors(t *testing.T) {
	for _, w := range []struct {
		s   string
		at  int
		err error
	}{
		{"*", 0, api.ErrForm}, {"+", 0, api.ErrForm}, {"?", 0, api.ErrForm}, {"]", 0, api.ErrForm}, {"}", 0, api.ErrForm}, {"/", 0, api.ErrForm}, {"a]", 1, api.ErrForm}, {"a}", 1, api.ErrForm}, {"a/", 1, api.ErrForm},
		{"(*)", 1, api.ErrForm}, {"a|+", 2, api.ErrForm}, {"a(?", 2, api.ErrForm}, {"(a|*)", 3, api.ErrForm}, {"|*", 1, api.ErrForm}, {"a*]", 2, api.ErrForm}, {"a{2}}", 4, api.ErrForm}, {"(a)/", 3, api.ErrForm}, {"a|/b", 2, api.ErrForm}, {"[a]]", 3, api.ErrForm}, {"{n}}", 3, api.ErrForm},
		{")", 0, api.ErrForm}, {"ab)", 2, api.ErrForm}, {"(a))", 3, api.ErrForm}, {"a|)", 2, api.ErrForm}, {"())", 2, api.ErrForm}, {"a*)b", 2, api.ErrForm}, {")(", 0, api.ErrForm},
		{"(", 1, api.ErrShort}, {"((", 2, api.ErrShort}, {"(a", 2, api.ErrShort}, {"(a|", 3, api.ErrShort}, {"(a*", 3, api.ErrShort}, {"((a)", 4, api.ErrShort}, {"()(", 3, api.ErrShort}, {"(a{2}", 5, api.ErrShort}, {"(.", 2, api.ErrShort}, {"a|(b", 4, api.ErrShort},
		{"{", 1, api.ErrShort}, {"a{", 2, api.ErrShort}, {"{n", 2, api.ErrShort}, {"a{n", 3, api.ErrShort}, {"{A", 2, api.ErrShort}, {"{1", 2, api.ErrShort}, {"{n|(", 4, api.ErrShort}, {"{abcdefghijklmn", 15, api.ErrShort}, {"({n)", 4, api.ErrShort}, {"a*{", 3, api.ErrShort}, {"a|{9", 4, api.ErrShort},
		{"{}", 1, api.ErrName}, {"a{}", 2, api.ErrName}, {"{A}", 1, api.ErrName}, {"{1}", 1, api.ErrName}, {"{1,2}", 1, api.ErrName}, {"{1a}", 1, api.ErrName}, {"{a b}", 1, api.ErrName}, {"{a_b}", 1, api.ErrName}, {"{ab|c*d}", 1, api.ErrName}, {"{abcdefghijklm}", 1, api.ErrName}, {"(a|{}", 4, api.ErrName}, {"|{2}", 2, api.ErrName}, {"({2})", 2, api.ErrName}, {"a{,2}", 2, api.ErrName}, {"a{-1}", 2, api.ErrName}, {"a{ 1}", 2, api.ErrName}, {"{a{b}", 1, api.ErrName}, {"a{x,1}", 2, api.ErrName},
		{"a{1", 3, api.ErrShort}, {"a{12", 4, api.ErrShort}, {"a{1,", 4, api.ErrShort}, {"a{1,2", 5, api.ErrShort}, {"a{1,40", 6, api.ErrShort}, {"a{0", 3, api.ErrShort}, {"a{0,0", 5, api.ErrShort}, {"a{3,2", 5, api.ErrShort}, {"(a{1", 4, api.ErrShort},
		{"a{1x}", 3, api.ErrForm}, {"a{12x", 4, api.ErrForm}, {"a{1,x", 4, api.ErrForm}, {"a{1,2x", 5, api.ErrForm}, {"a{1,2,", 5, api.ErrForm}, {"a{1,,", 4, api.ErrForm}, {"a{1 }", 3, api.ErrForm}, {"a{1, 2}", 4, api.ErrForm}, {"a{1{", 3, api.ErrForm}, {"a{0x", 3, api.ErrForm}, {"a{3,2x", 5, api.ErrForm}, {"a{1-2}", 3, api.ErrForm}, {`a{1\}`, 3, api.ErrForm}, {"a{1)", 3, api.ErrForm},
		{"a{41}", 2, api.ErrRange}, {"a{99}", 2, api.ErrRange}, {"a{100}", 2, api.ErrRange}, {"a{001}", 2, api.ErrRange}, {"a{000}", 2, api.ErrRange}, {"a{41", 2, api.ErrRange}, {"a{41x", 2, api.ErrRange}, {"a{100", 2, api.ErrRange}, {"a{100x", 2, api.ErrRange}, {"a{1,41}", 4, api.ErrRange}, {"a{1,100}", 4, api.ErrRange}, {"a{12,040}", 5, api.ErrRange}, {"a{1,41", 4, api.ErrRange}, {"a{1,100x", 4, api.ErrRange}, {"a{41,}", 2, api.ErrRange}, {"a{41,1}", 2, api.ErrRange}, {"a{41,x}", 2, api.ErrRange}, {"a{99,99}", 2, api.ErrRange}, {"a{2147483648}", 2, api.ErrRange}, {"a{1,99999999999999999999999}", 4, api.ErrRange}, {"a{18446744073709551617}", 2, api.ErrRange},
		{"a{0}", 2, api.ErrRange}, {"a{00}", 2, api.ErrRange}, {"a{0,0}", 4, api.ErrRange}, {"a{00,00}", 5, api.ErrRange}, {"a{3,2}", 4, api.ErrRange}, {"a{12,3}", 5, api.ErrRange}, {"a{1,0}", 4, api.ErrRange}, {"a{40,39}b", 5, api.ErrRange}, {"(b|a{2}{0})*", 8, api.ErrRange},
		{`\`, 1, api.ErrShort}, {`a\`, 2, api.ErrShort}, {`\x`, 2, api.ErrShort}, {`\x4`, 3, api.ErrShort}, {`\a`, 1, api.ErrForm}, {`ab\q`, 3, api.ErrForm}, {`\xg0`, 2, api.ErrForm}, {`\x4g`, 3, api.ErrForm}, {`(\`, 2, api.ErrShort}, {`a|\0`, 3, api.ErrForm}, {"\\ ", 1, api.ErrForm},
		{"[", 1, api.ErrShort}, {"[^", 2, api.ErrShort}, {"[a", 2, api.ErrShort}, {"[a-", 3, api.ErrShort}, {`[\`, 2, api.ErrShort}, {"[]", 1, api.ErrForm}, {"[^]", 2, api.ErrForm}, {"[]a]", 1, api.ErrForm}, {"[[", 1, api.ErrForm}, {"[-a]", 1, api.ErrForm}, {"[a/]", 2, api.ErrForm}, {"[a-]", 3, api.ErrForm}, {"[b-a]", 3, api.ErrRange}, {`[\q]`, 2, api.ErrForm}, {"x(y|[b-a])", 7, api.ErrRange}, {"x[a", 3, api.ErrShort}, {"([a)", 4, api.ErrShort},
	} {
		fails(t, w.s, w.at, w.err)
	}
}

func TestTheFirstErrorCounts(t *testing.T) {
	for _, w := range []struct {
		s   string
		at  int
		err error
	}{
		{"*)", 0, api.ErrForm}, {"a)*", 1, api.ErrForm}, {"(]", 1, api.ErrForm}, {"({}", 2, api.ErrName}, {"(a{0}", 3, api.ErrRange}, {`(\q`, 2, api.ErrForm}, {`\q)`, 1, api.ErrForm}, {"([b-a]", 4, api.ErrRange}, {"a{0}*)", 2, api.ErrRange}, {"a{1x{", 3, api.ErrForm}, {"(a))(", 3, api.ErrForm}, {"{}{", 1, api.ErrName}, {"{}[", 1, api.ErrName}, {"[]{", 1, api.ErrForm}, {"a{3,2}{41}", 4, api.ErrRange}, {"a{41}{0}", 2, api.ErrRange}, {"a{99,0}", 2, api.ErrRange}, {"a/{", 1, api.ErrForm},
	} {
		fails(t, w.s, w.at, w.err)
	}
	flaws := []string{"*)", ")", "]", "}", "/", "a{0}", "a{41}", "a{1x}", "{}", "{A}", "[]", "[b-a]", `\q`, `\xg`}
	for _, first := range flaws {
		_, place, want := Parse(first)
		for _, second := range append(flaws, "(", "{", "[", `\`, "b*", strings.Repeat("b", 700), "b"+strings.Repeat("*", 30)) {
			fails(t, first+second, place, want)
			fails(t, "x|y{2}|"+first+second, place+7, want)
		}
	}
}

func TestEveryByte(t *testing.T) {
	for c := range 256 {
		s := string([]byte{byte(c)})
		switch {
		case strings.Contains("*+?", s):
			fails(t, s, 0, api.ErrForm)
			fails(t, "a|"+s, 2, api.ErrForm)
			fails(t, "("+s+")", 1, api.ErrForm)
		case strings.Contains(")]}/", s):
			fails(t, s, 0, api.ErrForm)
			fails(t, "ab"+s, 2, api.ErrForm)
			fails(t, "a*"+s+"b", 2, api.ErrForm)
		case strings.Contains(`([{\`, s):
			fails(t, s, 1, api.ErrShort)
			fails(t, "ab"+s, 3, api.ErrShort)
		case s == "|":
			is(t, s, alt(cat(), cat()))
		case s == ".":
			is(t, s, oneOfSet(sets.One(10).Not()))
		default:
			is(t, s, one(byte(c)))
			is(t, "a"+s+"*", cat(one('a'), rep(0, -1, one(byte(c)))))
			is(t, "("+s+"|"+s+")", alt(one(byte(c)), one(byte(c))))
		}
		is(t, spell.Plain(byte(c)), one(byte(c)))
		is(t, "("+spell.Plain(byte(c))+"){n}", cat(one(byte(c)), name("n")))
		for _, around := range [][2]string{{"", "a"}, {"a", ""}, {"a", "b"}, {"(", ")"}, {"(a", ")"}, {"|", ""}, {"a*", ""}, {`\`, ""}, {`\x`, "0"}, {`\x0`, ""}, {"[", "]"}, {"[^", "]"}, {"[a-", "]"}, {"{", "}"}, {"{a", "}"}, {"a{", "}"}, {"a{1", "}"}, {"a{1,", "}"}, {"a{1,2", "}"}, {"a{", "1}"}, {"a{1", ""}, {"a{1,", ""}, {"a{1,3", ""}, {"a{", ""}} {
			check(t, around[0]+s+around[1])
		}
	}
}

// numbers is how a number may be written in bounds.
func numbers(n int) []string {
	s := strconv.Itoa(n)
	if n < 10 {
		return []string{s, "0" + s}
	}
	return []string{s}
}

func TestEveryBound(t *testing.T) {
	a := one('a')
	for m := range 101 {
		for _, s := range numbers(m) {
			if m > 40 {
				fails(t, "a{"+s+"}", 2, api.ErrRange)
				fails(t, "a{"+s+",}", 2, api.ErrRange)
				fails(t, "a{"+s+",1}", 2, api.ErrRange)
				fails(t, "a{1,"+s+"}", 4, api.ErrRange)
				continue
			}
			if m == 0 {
				fails(t, "a{"+s+"}", 2, api.ErrRange)
			} else {
				is(t, "a{"+s+"}", rep(m, m, a))
			}
			is(t, "a{"+s+",}", rep(m, -1, a))
			fails(t, "a{0"+s[:1]+"0}", 2, api.ErrRange)
			for n := range 41 {
				for _, z := range numbers(n) {
					if n < m || n < 1 {
						fails(t, "a{"+s+","+z+"}", 3+len(s), api.ErrRange)
					} else {
						is(t, "a{"+s+","+z+"}", rep(m, n, a))
					}
				}
			}
		}
	}
}

func TestBoundsThatEndEarly(t *testing.T) {
	for m := range 120 {
		for n := range 120 {
			s := "(a){" + strconv.Itoa(m) + "," + strconv.Itoa(n) + "}"
			for k := range len(s) + 1 {
				check(t, s[:k])
				check(t, s[:k]+"x"+s[k:])
			}
		}
	}
}

func TestBracesBehindAndAheadOfAPiece(t *testing.T) {
	a := one('a')
	for _, behind := range []struct {
		s string
		n tree.Node
	}{{"a", a}, {"(a)", a}, {"a*", rep(0, -1, a)}, {"{n}", name("n")}, {"[a]", a}, {".", oneOfSet(brackets.Dot())}, {`\}`, one('}')}, {"()", cat()}, {"(|)", alt(cat(), cat())}, {"a{2}", rep(2, 2, a)}} {
		size := len(behind.s)
		is(t, behind.s+"{3}", rep(3, 3, behind.n))
		is(t, behind.s+"{b}", cat(behind.n, name("b")))
		fails(t, behind.s+"{}", size+1, api.ErrName)
		fails(t, behind.s+"{", size+1, api.ErrShort)
		fails(t, behind.s+"{3", size+2, api.ErrShort)
		fails(t, behind.s+"{b", size+2, api.ErrShort)
	}
	for _, ahead := range []string{"", "(", "|", "a|", "((", "a(", "(a|"} {
		size := len(ahead)
		fails(t, ahead+"{3}", size+1, api.ErrName)
		fails(t, ahead+"{3,4}", size+1, api.ErrName)
		fails(t, ahead+"{}", size+1, api.ErrName)
		fails(t, ahead+"{", size+1, api.ErrShort)
		fails(t, ahead+"{3", size+2, api.ErrShort)
		fails(t, ahead+"{b", size+2, api.ErrShort)
	}
}

func TestNames(t *testing.T) {
	for size := range 20 {
		s := strings.Repeat("a", size)
		if size < 1 || size > api.MaxName {
			fails(t, "{"+s+"}", 1, api.ErrName)
			fails(t, "(a|{"+s+"}", 4, api.ErrName)
		} else {
			is(t, "{"+s+"}", name(s))
			is(t, "a{"+s+"}", cat(one('a'), name(s)))
		}
		fails(t, "{"+s, 1+size, api.ErrShort)
		fails(t, "({"+s+")", 3+size, api.ErrShort)
	}
	for c := range 256 {
		at := strings.Repeat("b", 4)
		for k := range 5 {
			check(t, "{"+at[:k]+string([]byte{byte(c)})+at[k:]+"}")
		}
	}
}

// wholes are long texts without an error.
var wholes = []string{
	`(a|b){2,3}c?`,
	`|a||(b|)|`,
	`{digit}+(\.{digit}+)?([eE][+\-]?{digit}{1,3})?`,
	`"([^"\\\n]|\\.)*"`,
	`((a(b(c)*)+)?){2,}(()|(()))`,
	`\/\*([^*]|\*+[^*\/])*\*+\/`,
	`[a-z_][a-z0-9_]{0,11}|0x[0-9a-f]{1,8}|\x00\xff\n\t\r\s`,
	`a*+?{2}{3,}{4,40}{name}{1}.[^\x00-\xff][\x00-\xff]`,
}

func TestEveryPrefix(t *testing.T) {
	for _, s := range wholes {
		for k := range len(s) + 1 {
			check(t, s[:k])
			check(t, s[k:])
			check(t, "("+s[:k])
			for _, c := range []string{"*", "+", "?", "|", "(", ")", "[", "]", "{", "}", ".", `\`, "/", "{2}", "{0}", "{n}", "\x00"} {
				check(t, s[:k]+c)
				check(t, s[:k]+c+s[k:])
			}
		}
	}
	s := `a(b{2,3}|[c-d]{n})\x41*`
	for k, w := range []struct {
		at  int
		err error
	}{
		{0, nil}, {1, nil}, {2, api.ErrShort}, {3, api.ErrShort}, {4, api.ErrShort}, {5, api.ErrShort}, {6, api.ErrShort}, {7, api.ErrShort}, {8, api.ErrShort}, {9, api.ErrShort}, {10, api.ErrShort}, {11, api.ErrShort}, {12, api.ErrShort}, {13, api.ErrShort}, {14, api.ErrShort}, {15, api.ErrShort}, {16, api.ErrShort}, {17, api.ErrShort}, {18, nil}, {19, api.ErrShort}, {20, api.ErrShort}, {21, api.ErrShort}, {22, nil}, {23, nil},
	} {
		if _, at, err := Parse(s[:k]); at != w.at || !errors.Is(err, w.err) || !errors.Is(w.err, err) {
			t.Errorf("Parse(%q) ends at %d with %v", s[:k], at, err)
		}
	}
}

func TestLowerLayersErrors(t *testing.T) {
	flaws := []string{`\`, `\a`, `\0`, `\x`, `\x4`, `\x4g`, `\xg4`, "\\\n", "\\\x80"}
	lists := []string{"[", "[]", "[^]", "[^", "[a", "[a-", "[a-]", "[-", "[/", "[[", "[b-a", `[\`, `[\q`, `[\xg`, `[a-\`, `[a-\q`, `[a-\x4g`, `[^a-c\x`, "[a/", "[a[", "[ab-aa]", `[\xff-\x00]`}
	for _, b := range []string{"", "a", "ab*", "(", "(a|", "a|", "{n}", "x{2}", "[a]", `\n`, "((a)"} {
		for _, s := range flaws {
			_, at, err := spell.Read(s, 0)
			fails(t, b+s, len(b)+at, err)
		}
		for _, s := range lists {
			_, at, err := brackets.Read(s, 0)
			fails(t, b+s, len(b)+at, err)
			if at < len(s) {
				fails(t, b+s+")]*", len(b)+at, err)
			}
		}
	}
}

func TestResultsAreApart(t *testing.T) {
	s := "(a|{n}b*)(c|d)e|f"
	n, _, err := Parse(s)
	if err != nil {
		t.Fatal(err)
	}
	want := tree.Copy(n)
	spoil(n)
	m, _, _ := Parse(s)
	if !tree.Same(m, want) {
		t.Errorf("Parse(%q) = %v when what it returned before was changed", s, m)
	}
	// A change of one list, its spare capacity included, is seen nowhere else.
	for range 3 {
		first := m.Kids[0].Kids[0]
		rest := tree.Copy(m.Kids[0].Kids[1])
		_ = append(first.Kids, one('x'), one('y'), one('z'))
		first.Kids[0] = one('w')
		if !tree.Same(m.Kids[0].Kids[1], rest) || !tree.Same(m.Kids[1], one('f')) {
			t.Errorf("a change of one list changes another: %v", m)
		}
	}
}

// spoil overwrites a tree, with the spare capacity of its lists.
func spoil(n tree.Node) {
	kids := n.Kids[:cap(n.Kids)]
	for k := range kids {
		spoil(kids[k])
		kids[k] = tree.Node{Kind: 77, Text: "spoilt"}
	}
}
