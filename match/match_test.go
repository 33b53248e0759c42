package match

import (
	"math"
	"slices"
	"strings"
	"testing"

	"doffer/brackets"
	"doffer/regex"
	"doffer/sets"
	"doffer/tree"
)

// parse is the tree of a text that can be parsed.
func parse(t *testing.T, s string) tree.Node {
	t.Helper()
	n, _, err := regex.Parse(s)
	if err != nil {
		t.Fatalf("Parse(%q): %v", s, err)
	}
	return n
}

// parseAll is the trees of several texts.
func parseAll(t *testing.T, texts ...string) []tree.Node {
	t.Helper()
	var list []tree.Node
	for _, s := range texts {
		list = append(list, parse(t, s))
	}
	return list
}

func TestChapterExample(t *testing.T) {
	if got := Ends(parse(t, "a*"), []byte("aab"), 0); !slices.Equal(got, []int{0, 1, 2}) {
		t.Errorf("Ends is %v", got)
	}
}

func TestIs(t *testing.T) {
	for _, w := range []struct {
		tree    string
		in, out string // texts, with a space after each one
	}{
		{"a", "a ", " b aa ab ba A "},
		{"[a-c]", "a b c ", " d ab ` "},
		{".", "a \x00 \xff \x80 ", "\n  aa "},
		{"()", " ", "a \x00 "},
		{"(())(())", " ", "a "},
		{"{x}", "", " x {x} a "},
		{`[^\x00-\xff]`, "", " a \x00 \xff "},
		{"ab", "ab ", " a b ba abb aab aba cab abc "},
		{"abcd", "abcd ", " abc bcd abcde aabcd abdc "},
		{"a?b", "b ab ", " a aab bb abb ba "},
		{"ab?", "a ab ", " b abb aab ba "},
		{"a?b?c?", " a b c ab ac bc abc ", "aa ba ca cb abcc acb abca "},
		{"a*b?", " b ab aab a aaa ", "ba aabb bb c aac caa "},
		{"a|b", "a b ", " ab ba c aa "},
		{"a|", " a ", "aa b "},
		{"|", " ", "a "},
		{"ab|cd", "ab cd ", " abcd ad cb abd acd a d "},
		{"a|ab|abc", "a ab abc ", " b abcd bc aab "},
		{"abc|ab|a", "a ab abc ", " b abcd bc aab "},
		{"a*", " a aa aaaa ", "b ab ba aab baa aba "},
		{"a+", "a aa aaaa ", " b ab ba aab "},
		{"a{1}", "a ", " aa b "},
		{"a{3}", "aaa ", " a aa aaaa aab aaab "},
		{"a{3,}", "aaa aaaa aaaaaaaa ", " a aa aab baaa aaab "},
		{"a{2,4}", "aa aaa aaaa ", " a aaaaa aaaaaa b aab "},
		{"a{0,2}", " a aa ", "aaa b ab "},
		{"(ab)*", " ab abab ababab ", "a aba abb abba ba abaab "},
		{"(ab){2,3}", "abab ababab ", " ab abababab aba ababa ababb "},
		{"(a|bc){2,3}", "aa abc bca bcbc aaa bcbcbc abcbc ", " a bc aaaa ab bb ca bcb abcabc "},
		{"(a?){3}", " a aa aaa ", "aaaa b ab "},
		{"(a?){2,}", " a aa aaa aaaaaaa ", "b ab ba "},
		{"(a*)*", " a aa aaa ", "b ab ba aba "},
		{"(a*b*)*", " a b ab ba aabbab ", "c abc cab acb "},
		{"(a+)+", "a aa aaa ", " b ab ba "},
		{"(a{2}){2,3}", "aaaa aaaaaa ", " aa aaa aaaaa aaaaaaa aaaaaaaa "},
		{"(a{2,3}){2}", "aaaa aaaaa aaaaaa ", " aa aaa aaaaaaa "},
		{"(a{2}|a{5})*", " aa aaaa aaaaa aaaaaa aaaaaaa aaaaaaaa aaaaaaaaa ", "a aaa "},
		{"((a|b)*c)*", " c ac bc abc abcc cabc cc bbacabc ", "a b ab abca ca "},
		{"a(b|())c", "ac abc ", " a abbc bc ab "},
		{"a(()|(()))*b", "ab ", " a b aab "},
		{"(()|a)+", " a aa aaa ", "b ab "},
		{"{x}*", " ", "x a "},
		{"{x}+", "", " x a "},
		{"{x}{0,3}", " ", "x "},
		{"{x}{3}", "", " x xxx "},
		{"a{x}?b", "ab ", " a b axb "},
		{"a{x}|b", "b ", " a ax ab "},
		{"{x}|ab|{y}", "ab ", " a b x y "},
		{"(a{x})*b(c{x})?", "b ", " ab abc bc "},
		{"(a{x}|b)+", "b bb bbb ", " a ab ba "},
		{"x(a|bc)*[0-2]", "x0 xa1 xbc2 xabcbca0 ", " x xa xb0 xabc x3 xac1 x00 "},
		{"(a|ab)(c|bcd)(d*)", "ac abc abcd acd abbcd acddd abcdd abcddd abbcddd ", " a ab abb abbc abccd "},
		{"(aa|aab|b)*", " aa aab b baab aabb aaaab aabaa ", "a aba aaba aaa baba "},
		{"[^a]*", " b bc \n\x00\xff ", "a ba ab "},
	} {
		n := parse(t, w.tree)
		for want, texts := range map[bool]string{true: w.in, false: w.out} {
			for text := range strings.SplitSeq(strings.TrimSuffix(texts, " "), " ") {
				if texts == "" {
					continue
				}
				if got := Is(n, []byte(text)); got != want {
					t.Errorf("Is(%q, %q) is %v", w.tree, text, got)
				}
				check(t, n, []byte(text))
			}
		}
	}
}

func TestEnds(t *testing.T) {
	for _, w := range []struct {
		tree, text string
		want       [][]int // from each index of the text
	}{
		{"a*", "aab", [][]int{{0, 1, 2}, {1, 2}, {2}, {3}}},
		{"a+", "aab", [][]int{{1, 2}, {2}, {}, {}}},
		{"a", "aab", [][]int{{1}, {2}, {}, {}}},
		{"()", "aab", [][]int{{0}, {1}, {2}, {3}}},
		{"()", "", [][]int{{0}}},
		{"a", "", [][]int{{}}},
		{"a?", "", [][]int{{0}}},
		{"{x}", "xx", [][]int{{}, {}, {}}},
		{"{x}?", "xx", [][]int{{0}, {1}, {2}}},
		{`[^\x00-\xff]`, "ab", [][]int{{}, {}, {}}},
		{"ab|a|abcd", "abcdab", [][]int{{1, 2, 4}, {}, {}, {}, {5, 6}, {}, {}}},
		{"a{2,3}", "aaaaa", [][]int{{2, 3}, {3, 4}, {4, 5}, {5}, {}, {}}},
		{"a{2,}", "aaaab", [][]int{{2, 3, 4}, {3, 4}, {4}, {}, {}, {}}},
		{"(aa|aaa)*", "aaaaaa", [][]int{{0, 2, 3, 4, 5, 6}, {1, 3, 4, 5, 6}, {2, 4, 5, 6}, {3, 5, 6}, {4, 6}, {5}, {6}}},
		{"[ab]*b", "abba", [][]int{{2, 3}, {2, 3}, {3}, {}, {}}},
		{".*", "ab\nc", [][]int{{0, 1, 2}, {1, 2}, {2}, {3, 4}, {4}}},
		{"b", "aba", [][]int{{}, {2}, {}, {}}},
	} {
		n := parse(t, w.tree)
		for from, want := range w.want {
			if got := Ends(n, []byte(w.text), from); !slices.Equal(got, want) {
				t.Errorf("Ends(%q, %q, %d) is %v, want %v", w.tree, w.text, from, got, want)
			}
		}
		check(t, n, []byte(w.text))
	}
}

func TestLongest(t *testing.T) {
	for _, w := range []struct {
		tree, text       string
		from, most, want int
	}{
		{"a*b?", "aabb", 0, 9, 3},
		{"a*b?", "aabb", 0, 4, 3},
		{"a*b?", "aabb", 0, 3, 3},
		{"a*b?", "aabb", 0, 2, 2},
		{"a*b?", "aabb", 0, 1, 1},
		{"a*b?", "aabb", 0, 0, 0},
		{"a*b?", "aabb", 0, -1, 0},
		{"a*b?", "aabb", 1, 9, 2},
		{"a*b?", "aabb", 2, 9, 1},
		{"a*b?", "aabb", 3, 9, 1},
		{"a*b?", "aabb", 4, 9, 0},
		{"a*b?", "aabb", 5, 9, 0},
		{"a*b?", "aabb", -1, 9, 0},
		{"a*b?", "aabb", 3, 1, 1},
		{"a*b?", "aabb", 3, 0, 0},
		{"a*", "baa", 0, 3, 0},
		{"a*", "baa", 1, 3, 2},
		{"a*", "baa", 1, math.MaxInt, 2},
		{"a*", "", 0, 9, 0},
		{"()", "aa", 0, 9, 0},
		{"{x}", "xx", 0, 9, 0},
		{"{x}?", "xx", 1, 9, 0},
		{"a|abc", "abcd", 0, 4, 3},
		{"a|abc", "abcd", 0, 3, 3},
		{"a|abc", "abcd", 0, 2, 1},
		{"abc|a", "abcd", 0, 2, 1},
		{"abc", "abcd", 0, 2, 0},
		{"bc", "abcd", 0, 4, 0},
		{"bc", "abcd", 1, 4, 2},
		{"(ab){2,3}", "ababababab", 0, 10, 6},
		{"(ab){2,3}", "ababababab", 0, 5, 4},
		{"(ab){2,3}", "ababababab", 4, 9, 6},
		{"(ab){2,3}", "ababababab", 6, 9, 4},
		{"(ab){2,3}", "ababababab", 8, 9, 0},
		{"a.*b", "abxb\nb", 0, 6, 4},
	} {
		n := parse(t, w.tree)
		if got := Longest(n, []byte(w.text), w.from, w.most); got != w.want {
			t.Errorf("Longest(%q, %q, %d, %d) is %d, want %d", w.tree, w.text, w.from, w.most, got, w.want)
		}
		check(t, n, []byte(w.text))
	}
}

func TestLeast(t *testing.T) {
	list := parseAll(t, "if|else", "{x}", "[a-z]+", "[a-z]*", "[0-9]{2}", "i.", "if|[0-9]*")
	for _, w := range []struct {
		text string
		want int
	}{
		{"if", 0}, {"else", 0}, {"x", 2}, {"ifs", 2}, {"i", 2}, {"", 3}, {"42", 4}, {"4", 6}, {"421", 6}, {"i4", 5}, {"I", -1}, {"4i", -1}, {" if", -1}, {"if ", -1},
	} {
		if got := Least(list, []byte(w.text)); got != w.want {
			t.Errorf("Least for %q is %d, want %d", w.text, got, w.want)
		}
		checkList(t, list, []byte(w.text))
	}
}

func TestBest(t *testing.T) {
	list := parseAll(t, "if|else", "[a-z]*", "{x}", "i", "[0-9]+", "[0-9]+(\\.[0-9]+)?", "()", "[a-z]+;")
	for _, w := range []struct {
		text                    string
		from, most, length, got int
	}{
		{"if", 0, 9, 2, 0},
		{"if", 0, 2, 2, 0},
		{"if", 0, 1, 1, 1},
		{"if", 0, 0, 0, -1},
		{"if", 0, -1, 0, -1},
		{"if", 1, 9, 1, 1},
		{"if", 2, 9, 0, -1},
		{"if", 3, 9, 0, -1},
		{"if", -1, 9, 0, -1},
		{"ifs", 0, 9, 3, 1},
		{"ifs", 0, 2, 2, 0},
		{"if;", 0, 9, 3, 7},
		{"if;", 0, 2, 2, 0},
		{"if;", 2, 9, 0, -1},
		{"12.5", 0, 9, 4, 5},
		{"12.5", 0, 3, 2, 4},
		{"12.5", 0, 2, 2, 4},
		{"12.5", 3, 1, 1, 4},
		{"12.", 0, 9, 2, 4},
		{"", 0, 9, 0, -1},
		{"", 1, 9, 0, -1},
		{" if", 0, 9, 0, -1},
		{" if", 1, 9, 2, 0},
	} {
		length, k := Best(list, []byte(w.text), w.from, w.most)
		if length != w.length || k != w.got {
			t.Errorf("Best(%q, %d, %d) is %d and %d, want %d and %d", w.text, w.from, w.most, length, k, w.length, w.got)
		}
		checkList(t, list, []byte(w.text))
	}
}

func TestSeveralTrees(t *testing.T) {
	texts := []string{"", "a", "ab", "abc", "abcb", "bc", "aab", "aaaab", "cab"}
	some := parseAll(t, "a", "ab", "a*", "a*b", "abc", "(ab)?c?", "()", "{x}", "{x}*", `[^\x00-\xff]`, "b|c", ".*")
	for _, x := range some {
		for _, y := range some {
			for _, z := range some {
				for _, text := range texts {
					checkList(t, []tree.Node{x, y, z}, []byte(text))
				}
			}
		}
	}
	for _, text := range texts {
		checkList(t, some, []byte(text))
		checkList(t, slices.Repeat(some, 9), []byte(text))
	}
}

func TestAnEmptyList(t *testing.T) {
	for _, text := range []string{"", "a", "ab"} {
		for _, list := range [][]tree.Node{nil, {}, parseAll(t, "a")[:0]} {
			checkList(t, list, []byte(text))
		}
	}
}

func TestTheEmptyText(t *testing.T) {
	for _, text := range [][]byte{nil, {}, []byte("ab")[:0]} {
		for _, s := range []string{"()", "a*", "a?", "a|", "(a|b*){3,4}", "{x}?", "{x}*", "(())+", "a?b?"} {
			n := parse(t, s)
			if !Is(n, text) || !slices.Equal(Ends(n, text, 0), []int{0}) || len(Ends(n, text, 1)) > 0 || Longest(n, text, 0, 5) != 0 {
				t.Errorf("%q does not have the empty text alone", s)
			}
			check(t, n, text)
		}
		for _, s := range []string{"a", ".", "a+", "a|b", "a?b", "{x}", "{x}|a", "(a|b*c){3,4}"} {
			n := parse(t, s)
			nothing(t, n, text)
			check(t, n, text)
		}
	}
}

func TestEveryByte(t *testing.T) {
	var text []byte
	for c := range 256 {
		text = append(text, byte(c))
	}
	for c := range 256 {
		for _, s := range []sets.Set{sets.One(byte(c)), sets.One(byte(c)).Not(), sets.Span(byte(c), 255), sets.Span(0, byte(c)), brackets.Dot()} {
			n, twice := bytesOf(s), rep(2, 2, bytesOf(s))
			for d := range 256 {
				has := slices.Contains(s.List(), byte(d))
				if Is(n, []byte{byte(d)}) != has || Is(twice, []byte{byte(d), byte(d)}) != has {
					t.Fatalf("of %v, Is tells %v of byte %d", s.List(), !has, d)
				}
			}
			// From each byte on, the bytes of the set that follow one another.
			run := 0
			for d := 255; d >= 0; d-- {
				if run++; !slices.Contains(s.List(), byte(d)) {
					run = 0
				}
				if d%5 == 0 && Longest(rep(0, -1, n), text, d, 300) != run {
					t.Fatalf("of %v, Longest from %d is not %d", s.List(), d, run)
				}
			}
		}
	}
}

func TestEveryRep(t *testing.T) {
	// Whether so many bytes are least to most strings of the kid, by counting alone.
	kids := map[string]func(length, least, most int) bool{
		"a":       func(length, least, most int) bool { return length >= least && length <= most },
		"aa":      func(length, least, most int) bool { return length%2 == 0 && length/2 >= least && length/2 <= most },
		"a?":      func(length, least, most int) bool { return length <= most },
		"a*":      func(length, least, most int) bool { return most > 0 },
		"a|aaa":   func(length, least, most int) bool { return sums(length, 1, 3, least, most) },
		"aa|a{5}": func(length, least, most int) bool { return sums(length, 2, 5, least, most) },
		"()":      func(length, least, most int) bool { return length == 0 },
		"{x}":     func(length, least, most int) bool { return length == 0 && least == 0 },
	}
	text := feed(130, "a")
	for kid, is := range kids {
		for least := range 41 {
			for most := max(least, 1); most <= 41; most++ {
				n, times := rep(least, most, parse(t, kid)), most
				if most == 41 {
					n.Max, times = -1, math.MaxInt/8
				}
				var want []int
				for length := range len(text) + 1 {
					if is(length, least, times) {
						want = append(want, length)
					}
				}
				if got := Ends(n, text, 0); !slices.Equal(got, want) {
					t.Fatalf("Ends of %v are %v, want %v", shown(n), got, want)
				}
			}
		}
	}
}

// sums tells whether a length is a sum of least to most numbers, each of which is a or b.
func sums(length, a, b, least, most int) bool {
	for k := 0; k*b <= length; k++ {
		if rest := length - k*b; rest%a == 0 && k+rest/a >= least && k+rest/a <= most {
			return true
		}
	}
	return false
}

// smalls are small trees of every kind, few of which have the same strings.
func smalls() []tree.Node {
	a, b := one('a'), one('b')
	return []tree.Node{
		a, b, bytesOf(sets.Span('b', 'c')), bytesOf(sets.Set{}), name("n"), cat(),
		cat(a, b), cat(b, a), cat(a, name("n")), cat(rep(0, 1, a), b), cat(a, rep(0, 1, b)),
		alt(a, cat()), alt(a, cat(b, a)), alt(a, name("n")),
		rep(0, 1, a), rep(0, -1, b), rep(1, -1, a), rep(2, 2, a), rep(1, 2, a), rep(0, 1, name("n")), rep(1, 1, name("n")),
	}
}

// texts are all texts of at most so many bytes of a few.
func texts(most int, of string) []string {
	all, last := []string{""}, []string{""}
	for range most {
		var next []string
		for _, s := range last {
			for k := range of {
				next = append(next, s+of[k:k+1])
			}
		}
		all, last = append(all, next...), next
	}
	return all
}

func TestEverySmallTreeWithEverySmallText(t *testing.T) {
	var all []tree.Node
	for _, a := range smalls() {
		all = append(all, a, cat(a), cat(cat(), a), rep(0, 1, a), rep(1, 1, a), rep(2, 2, a), rep(0, 2, a), rep(1, 3, a), rep(2, -1, a), rep(3, 3, rep(0, 1, a)), rep(0, -1, rep(2, -1, a)))
		for _, b := range smalls() {
			all = append(all, cat(a, b), alt(a, b), rep(0, -1, alt(a, b)), rep(1, -1, cat(a, b)))
		}
	}
	short := texts(4, "abc")
	for _, n := range all {
		for _, text := range short {
			checkEnds(t, n, []byte(text))
		}
		for _, text := range []string{"", "a", "abc", "abab", "aabbaab"} {
			check(t, n, []byte(text))
		}
	}
}

// every is a text in which all strings of three of these bytes stand.
const every = "aaabaacabbabcacbaccbbbcbcccaa"

func TestEverySmallTreeWithinEachOther(t *testing.T) {
	for _, s := range texts(3, "abc") {
		if !strings.Contains(every, s) {
			t.Fatalf("%q does not stand in %q", s, every)
		}
	}
	text := []byte(every)
	for _, a := range smalls() {
		for _, b := range smalls() {
			for _, c := range smalls()[:12] {
				checkEnds(t, cat(a, b, c), text)
				checkEnds(t, cat(alt(a, b), c), text)
				checkEnds(t, cat(c, alt(a, b)), text)
				checkEnds(t, alt(cat(a, b), c), text)
				checkEnds(t, cat(rep(0, 1, a), rep(0, -1, b), c), text)
				checkEnds(t, rep(2, 3, cat(a, rep(0, 1, alt(b, c)))), text)
				checkEnds(t, rep(1, -1, cat(rep(1, 2, a), rep(0, -1, alt(b, cat(c, a))))), text)
			}
		}
	}
}

// draws are numbers that look random and are the same each time.
type draws uint32

func (d *draws) below(n int) int {
	*d = *d*1664525 + 1013904223
	return int(uint64(*d) * uint64(n) >> 32)
}

// tree is a tree of at most so many levels; of a hundred nodes, so many are without strings, and so many are wrecked.
func (d *draws) tree(levels, without, wrecked int) tree.Node {
	if d.below(100) < without {
		return []tree.Node{name("n"), bytesOf(sets.Set{})}[d.below(2)]
	}
	if d.below(100) < wrecked {
		return []tree.Node{{}, rep(0, 0, one('a')), alt(one('a')), name("A"), {Kind: tree.Cat, Min: 1}}[d.below(5)]
	}
	kid := func() tree.Node { return d.tree(levels-1, without, wrecked) }
	switch kind := d.below(8); {
	case kind <= 1 || levels <= 1:
		return bytesOf([]sets.Set{sets.One('a'), sets.One('b'), sets.Span('a', 'b'), sets.One('a').Not(), brackets.Dot()}[d.below(5)])
	case kind == 2:
		return cat()
	case kind < 5:
		least := d.below(3)
		return rep(least, []int{-1, 1 + least, max(1, least), 4}[d.below(4)], kid())
	case kind == 5:
		return alt(kid(), kid())
	case kind == 6:
		return cat(kid(), kid())
	}
	return cat(rep(0, 1, kid()), kid(), kid(), rep(0, -1, kid()))
}

// text is a text of so many bytes.
func (d *draws) text(length int, of string) []byte {
	text := make([]byte, 0, length+d.below(3))
	for range length {
		text = append(text, of[d.below(len(of))])
	}
	return text
}

func TestTreesThatLookRandom(t *testing.T) {
	d := draws(10)
	right, in := 0, 0
	for k := range 10000 {
		n := d.tree(1+d.below(7), 4*(k%3), max(0, k%8-6))
		text := d.text(d.below(14), []string{"ab", "aab\n", "a"}[k%3])
		check(t, n, text)
		if may(n) {
			right++
		}
		if Is(n, text) {
			in++
		}
	}
	if right < 6000 || right == 10000 || in < 500 || in > right/2 {
		t.Errorf("%d of 10000 trees may have strings, %d have the text", right, in)
	}
}

func TestListsThatLookRandom(t *testing.T) {
	d := draws(11)
	var found [5]int
	for k := range 4000 {
		var list []tree.Node
		for range d.below(5) {
			list = append(list, d.tree(1+d.below(5), 2, k%2))
		}
		text := d.text(d.below(12), "aab")
		checkList(t, list, text)
		_, best := Best(list, text, 0, 12)
		found[best+1]++
	}
	if slices.Contains(found[:], 0) {
		t.Errorf("the best were %v", found)
	}
}
