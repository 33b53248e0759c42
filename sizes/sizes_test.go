package sizes

import (
	"slices"
	"testing"

	"doffer/brackets"
	"doffer/regex"
	"doffer/sets"
	"doffer/tree"
)

// parse is the tree of a text that can be parsed.
func parse(t *testing.T, s string) tree.Node {
	t.Helper()
	n, _, err := regex.Parse(s)
	if err != nil {
		t.Fatalf("Parse(%q): %v", s, err)
	}
	return n
}

// lang is what must be told of a language, by its lengths and the bytes with which its strings begin and end, and that are in them.
func lang(least, most int, first, last, alphabet string) told {
	set := func(s string) sets.Set { return sets.Of([]byte(s)) }
	return told{false, least == 0, least, most, set(first), set(last), set(alphabet)}
}

// is checks what is told of a tree, and its weight.
func is(t *testing.T, n tree.Node, want told, weight int) {
	t.Helper()
	if got := calls(n); got != want {
		t.Errorf("of %v it is told %v, want %v", shown(n), got, want)
	}
	if got := Weight(n); got != weight {
		t.Errorf("Weight of %v is %d, want %d", shown(n), got, weight)
	}
	check(t, n)
}

func TestChapterExample(t *testing.T) {
	n := parse(t, "(ab){2,3}")
	if Least(n) != 4 || Most(n) != 6 || First(n) != sets.One('a') || Last(n) != sets.One('b') {
		t.Errorf("Least %d, Most %d, First %v, Last %v", Least(n), Most(n), First(n).List(), Last(n).List())
	}
	if Void(n) || Nullable(n) || Weight(n) != 10 || Alphabet(n) != sets.Span('a', 'b') {
		t.Errorf("Void %v, Nullable %v, Weight %d, Alphabet %v", Void(n), Nullable(n), Weight(n), Alphabet(n).List())
	}
}

func TestHugeIsItsNumber(t *testing.T) {
	if Huge != 1048576 {
		t.Errorf("Huge is %d", Huge)
	}
}

func TestTreesThatAreRead(t *testing.T) {
	for _, w := range []struct {
		text   string
		want   told
		weight int
	}{
		{"a", lang(1, 1, "a", "a", "a"), 1},
		{"[a-c]", lang(1, 1, "abc", "abc", "abc"), 1},
		{`\n`, lang(1, 1, "\n", "\n", "\n"), 1},
		{"()", lang(0, 0, "", "", ""), 1},
		{"(())(())", lang(0, 0, "", "", ""), 3},
		{"{x}", nothing, 1},
		{`[^\x00-\xff]`, nothing, 1},
		{"ab", lang(2, 2, "a", "b", "ab"), 3},
		{"abcd", lang(4, 4, "a", "d", "abcd"), 5},
		{"a?b", lang(1, 2, "ab", "b", "ab"), 4},
		{"ab?", lang(1, 2, "a", "ab", "ab"), 4},
		{"a?b?c", lang(1, 3, "abc", "c", "abc"), 6},
		{"a?b?c?", lang(0, 3, "abc", "abc", "abc"), 7},
		{"a?bc?", lang(1, 3, "ab", "bc", "abc"), 6},
		{"a*b*cd*e*", lang(1, Huge, "abc", "cde", "abcde"), 10},
		{"(())a", lang(1, 1, "a", "a", "a"), 3},
		{"a(())", lang(1, 1, "a", "a", "a"), 3},
		{"a|b", lang(1, 1, "ab", "ab", "ab"), 3},
		{"a|", lang(0, 1, "a", "a", "a"), 3},
		{"|a", lang(0, 1, "a", "a", "a"), 3},
		{"|", lang(0, 0, "", "", ""), 3},
		{"abc|de|f", lang(1, 3, "adf", "cef", "abcdef"), 9},
		{"f|de|abc", lang(1, 3, "adf", "cef", "abcdef"), 9},
		{"de|abc|fg", lang(2, 3, "adf", "ceg", "abcdefg"), 11},
		{"a*", lang(0, Huge, "a", "a", "a"), 2},
		{"a+", lang(1, Huge, "a", "a", "a"), 3},
		{"a?", lang(0, 1, "a", "a", "a"), 2},
		{"a{1}", lang(1, 1, "a", "a", "a"), 2},
		{"a{5}", lang(5, 5, "a", "a", "a"), 6},
		{"a{5,}", lang(5, Huge, "a", "a", "a"), 7},
		{"a{0,}", lang(0, Huge, "a", "a", "a"), 2},
		{"a{0,7}", lang(0, 7, "a", "a", "a"), 8},
		{"a{5,7}", lang(5, 7, "a", "a", "a"), 8},
		{"a{40}", lang(40, 40, "a", "a", "a"), 41},
		{"a{40,}", lang(40, Huge, "a", "a", "a"), 42},
		{"(abc)*", lang(0, Huge, "a", "c", "abc"), 5},
		{"(abc){3,}", lang(9, Huge, "a", "c", "abc"), 17},
		{"(a?b?){2}", lang(0, 4, "ab", "ab", "ab"), 11},
		{"(a|bc){2,3}", lang(2, 6, "ab", "ac", "abc"), 16},
		{"(a{2,3}){4,5}", lang(8, 15, "a", "a", "a"), 21},
		{"(())*", lang(0, 0, "", "", ""), 2},
		{"(()){3,}", lang(0, 0, "", "", ""), 5},
		{"(()){3}", lang(0, 0, "", "", ""), 4},
		{"((())*)*", lang(0, 0, "", "", ""), 3},
		{"(()|(())*){2,9}", lang(0, 0, "", "", ""), 37},
		{"(()|a)+", lang(0, Huge, "a", "a", "a"), 7},
		{"x(a|bc)*[0-2]", lang(2, Huge, "x", "012", "xabc012"), 9},
		{"(ab?c?|d*e)(f|g?)", lang(1, Huge, "ade", "abcefg", "abcdefg"), 16},
		{"{x}a", nothing, 3},
		{"a{x}", nothing, 3},
		{"a{x}b", nothing, 4},
		{"a?{x}b?", nothing, 6},
		{"(a|b)*c{x}{4}", nothing, 11},
		{"{x}|a", lang(1, 1, "a", "a", "a"), 3},
		{"a|{x}", lang(1, 1, "a", "a", "a"), 3},
		{"{x}|ab|{y}", lang(2, 2, "a", "b", "ab"), 6},
		{"{x}|{y}", nothing, 3},
		{"{x}|{y}|", lang(0, 0, "", "", ""), 4},
		{"{x}*", lang(0, 0, "", "", ""), 2},
		{"{x}?", lang(0, 0, "", "", ""), 2},
		{"{x}{0,9}", lang(0, 0, "", "", ""), 10},
		{"{x}+", nothing, 3},
		{"{x}{1}", nothing, 2},
		{"{x}{3,9}", nothing, 10},
		{"{x}{40,}", nothing, 42},
		{"({x}*)+", lang(0, 0, "", "", ""), 5},
		{"({x}+)*", lang(0, 0, "", "", ""), 4},
		{"(a{x})*", lang(0, 0, "", "", ""), 4},
		{"(a{x})+", nothing, 7},
		{"(a{x}|b)+", lang(1, Huge, "b", "b", "b"), 11},
		{"(a{x})*b(c{x})?", lang(1, 1, "b", "b", "b"), 10},
		{"ab{x}|cd", lang(2, 2, "c", "d", "cd"), 8},
		{"a{x}?b", lang(2, 2, "a", "b", "ab"), 5},
	} {
		is(t, parse(t, w.text), w.want, w.weight)
	}
}

func TestEverySet(t *testing.T) {
	for c := range 256 {
		for _, s := range []sets.Set{sets.One(byte(c)), sets.One(byte(c)).Not(), sets.Span(byte(c), 255), brackets.Dot().Minus(sets.One(byte(c)))} {
			is(t, bytesOf(s), told{false, false, 1, 1, s, s, s}, 1)
			is(t, cat(bytesOf(s), one(7)), told{false, false, 2, 2, s, sets.One(7), s.Or(sets.One(7))}, 3)
			is(t, cat(rep(0, 1, one(7)), bytesOf(s)), told{false, false, 1, 2, s.Or(sets.One(7)), s, s.Or(sets.One(7))}, 4)
			is(t, alt(one(7), bytesOf(s)), told{false, false, 1, 1, s.Or(sets.One(7)), s.Or(sets.One(7)), s.Or(sets.One(7))}, 3)
			is(t, rep(2, -1, bytesOf(s)), told{false, false, 2, Huge, s, s, s}, 4)
		}
	}
	is(t, bytesOf(sets.All()), told{false, false, 1, 1, sets.All(), sets.All(), sets.All()}, 1)
}

// voids are trees whose languages are empty, each with its weight.
func voids() map[int]tree.Node {
	void := bytesOf(sets.Set{})
	return map[int]tree.Node{
		1:  void,
		3:  cat(one('z'), void),
		4:  cat(void, one('z'), one('y')),
		5:  alt(void, cat(name("n"), one('z'))),
		2:  rep(1, 1, void),
		6:  rep(2, 5, name("n")),
		42: rep(40, -1, void),
	}
}

func TestPartsWithoutStrings(t *testing.T) {
	a, b := one('a'), one('b')
	is(t, name("x"), nothing, 1)
	is(t, name("abcdefghijkl"), nothing, 1)
	for w, v := range voids() {
		is(t, v, nothing, w)
		is(t, cat(v), nothing, 1+w)
		is(t, cat(v, a), nothing, 2+w)
		is(t, cat(a, v), nothing, 2+w)
		is(t, cat(a, v, b), nothing, 3+w)
		is(t, cat(rep(0, -1, a), v, rep(0, -1, b)), nothing, 5+w)
		is(t, cat(cat(a, b), cat(cat(), v)), nothing, 6+w)
		is(t, cat(v, v), nothing, 1+2*w)
		is(t, alt(v, v), nothing, 1+2*w)
		is(t, alt(v, a), lang(1, 1, "a", "a", "a"), 2+w)
		is(t, alt(a, v), lang(1, 1, "a", "a", "a"), 2+w)
		is(t, alt(v, cat(a, b), v), lang(2, 2, "a", "b", "ab"), 4+2*w)
		is(t, alt(v, cat()), lang(0, 0, "", "", ""), 2+w)
		is(t, alt(cat(a, v), b), lang(1, 1, "b", "b", "b"), 4+w)
		is(t, cat(alt(v, a), b), lang(2, 2, "a", "b", "ab"), 4+w)
		is(t, cat(a, rep(0, -1, v), b), lang(2, 2, "a", "b", "ab"), 4+w)
		for _, bounds := range [][2]int{{0, -1}, {0, 1}, {0, 2}, {0, 40}, {1, -1}, {1, 1}, {1, 40}, {2, -1}, {2, 2}, {2, 3}, {40, -1}, {40, 40}} {
			least, most := bounds[0], bounds[1]
			want, times := nothing, most
			if least == 0 {
				want = lang(0, 0, "", "", "")
			}
			if most == -1 {
				times = least + 1
			}
			is(t, rep(least, most, v), want, 1+times*w)
			is(t, rep(least, most, cat(a, v, b)), want, 1+times*(3+w))
			is(t, rep(least, most, cat(v)), want, 1+times*(1+w))
		}
	}
}

func TestPartsThatAreTheEmptyString(t *testing.T) {
	a := one('a')
	only := lang(0, 0, "", "", "")
	for w, e := range map[int]tree.Node{
		1: cat(),
		2: cat(cat()),
		3: alt(cat(), cat()),
		5: cat(cat(), alt(cat(), name("n"))),
		6: rep(0, 5, name("n")),
		8: rep(7, 7, cat()),
	} {
		is(t, e, only, w)
		is(t, cat(e), only, 1+w)
		is(t, cat(e, e), only, 1+2*w)
		is(t, cat(e, a), lang(1, 1, "a", "a", "a"), 2+w)
		is(t, cat(a, e), lang(1, 1, "a", "a", "a"), 2+w)
		is(t, cat(e, a, e, e), lang(1, 1, "a", "a", "a"), 2+3*w)
		is(t, alt(e, a), lang(0, 1, "a", "a", "a"), 2+w)
		is(t, alt(a, e), lang(0, 1, "a", "a", "a"), 2+w)
		is(t, cat(e, name("n")), nothing, 2+w)
		is(t, rep(0, -1, e), only, 1+w)
		is(t, rep(1, -1, e), only, 1+2*w)
		is(t, rep(40, -1, e), only, 1+41*w)
		is(t, rep(0, 1, e), only, 1+w)
		is(t, rep(3, 40, e), only, 1+40*w)
		is(t, rep(0, -1, cat(e, a)), lang(0, Huge, "a", "a", "a"), 3+w)
	}
}

func TestFirstKidsWithTheEmptyString(t *testing.T) {
	const letters = "abcdefghij"
	for _, hides := range []func(tree.Node) tree.Node{
		func(n tree.Node) tree.Node { return rep(0, -1, n) },
		func(n tree.Node) tree.Node { return rep(0, 1, n) },
		func(n tree.Node) tree.Node { return alt(n, cat()) },
		func(n tree.Node) tree.Node { return alt(cat(), name("n"), n) },
		func(n tree.Node) tree.Node { return rep(3, 4, rep(0, 1, n)) },
		func(n tree.Node) tree.Node { return cat(rep(0, 1, n), cat()) },
	} {
		for must := range letters {
			var kids []tree.Node
			for k := range letters {
				kid := one(letters[k])
				if k < must {
					kid = hides(kid)
				}
				kids = append(kids, kid)
			}
			first, all := sets.Of([]byte(letters[:must+1])), sets.Span('a', 'j')
			want := told{false, false, len(letters) - must, Most(cat(kids...)), first, sets.One('j'), all}
			// In one Cat, and in Cats within each other.
			for _, n := range []tree.Node{cat(kids...), cat(cat(kids[:4]...), cat(kids[4:5]...), cat(kids[5:]...))} {
				checkAll(t, n, func(tree.Node) told { return want })
			}
			slices.Reverse(kids)
			want.first, want.last = want.last, want.first
			for _, n := range []tree.Node{cat(kids...), cat(kids[0], cat(kids[1], cat(kids[2:]...)))} {
				checkAll(t, n, func(tree.Node) told { return want })
			}
		}
	}
}

func TestEveryRep(t *testing.T) {
	n := parse(t, "ab|cde")
	for least := range 41 {
		for most := max(least, 1); most < 41; most++ {
			is(t, rep(least, most, n), lang(2*least, 3*most, "ac", "be", "abcde"), 1+8*most)
		}
		is(t, rep(least, -1, n), lang(2*least, Huge, "ac", "be", "abcde"), 1+8*(least+1))
		is(t, rep(least, -1, one('a')), lang(least, Huge, "a", "a", "a"), 2+least)
	}
}

// smalls are small trees of every kind, few of which have the same strings.
func smalls() []tree.Node {
	a, b := one('a'), one('b')
	return []tree.Node{
		a, b, bytesOf(sets.Span('b', 'c')), bytesOf(sets.Set{}), name("n"), cat(),
		cat(a, b), cat(b, a), cat(a, name("n")), cat(rep(0, 1, a), b), cat(a, rep(0, 1, b)),
		alt(a, cat()), alt(a, cat(b, a)), alt(a, name("n")),
		rep(0, 1, a), rep(0, -1, b), rep(1, -1, a), rep(2, 2, a), rep(1, 2, a), rep(0, 1, name("n")), rep(1, 1, name("n")),
	}
}

func TestEverySmallTree(t *testing.T) {
	var all []tree.Node
	some := smalls()
	for _, a := range some {
		all = append(all, a, cat(a), rep(0, -1, a), rep(1, -1, a), rep(2, -1, a), rep(0, 1, a), rep(1, 1, a), rep(2, 2, a), rep(0, 2, a), rep(1, 3, a))
		for _, b := range some {
			all = append(all, cat(a, b), alt(a, b))
			for _, c := range some[:12] {
				all = append(all, cat(a, b, c), alt(a, b, c), cat(alt(a, b), c), cat(c, alt(a, b)), alt(cat(a, b), c), cat(rep(0, 1, a), rep(0, -1, b), c))
			}
		}
	}
	for _, n := range all {
		checkAll(t, n, listed)
		checkAll(t, n, drawn)
		checkAll(t, cat(n, rep(0, 1, n)), drawn)
		checkAll(t, rep(0, -1, n), drawn)
		checkAll(t, rep(2, 3, n), drawn)
	}
}

// draws are numbers that look random and are the same each time.
type draws uint32

func (d *draws) below(n int) int {
	*d = *d*1664525 + 1013904223
	return int(uint64(*d) * uint64(n) >> 32)
}

// tree is a tree of at most so many levels; of a hundred nodes, so many are without strings, and so many are wrecked.
func (d *draws) tree(levels, without, wrecked int) tree.Node {
	if d.below(100) < without {
		return []tree.Node{name("n"), bytesOf(sets.Set{})}[d.below(2)]
	}
	if d.below(100) < wrecked {
		return []tree.Node{{}, rep(0, 0, one('a')), alt(one('a')), name("A"), {Kind: tree.Cat, Min: 1}}[d.below(5)]
	}
	kid := func() tree.Node { return d.tree(levels-1, without, wrecked) }
	switch kind := d.below(7); {
	case kind == 0 || levels <= 1:
		s := sets.One(byte(d.below(256)))
		return bytesOf([]sets.Set{s, s.Not(), sets.Span(byte(d.below(256)), byte(d.below(256))).Or(s)}[d.below(3)])
	case kind == 1:
		return cat()
	case kind < 4:
		least := d.below(3)
		return rep(least, []int{-1, 1 + least, max(1, least), 4}[d.below(4)], kid())
	case kind == 4:
		return alt(kid(), kid())
	case kind == 5:
		return cat(kid(), kid())
	}
	return cat(rep(0, 1, kid()), kid(), kid(), rep(0, -1, kid()))
}

func TestTreesThatLookRandom(t *testing.T) {
	d := draws(9)
	right, void := 0, 0
	for k := range 20000 {
		n := d.tree(1+d.below(8), 6*(k%3), max(0, k%8-6))
		check(t, n)
		if !tree.Right(n) {
			continue
		}
		if right++; Weight(n) < 150 {
			checkAll(t, n, drawn)
		}
		if Void(n) {
			void++
		}
	}
	if right < 12000 || right == 20000 || void < 1000 || void > right/2 {
		t.Errorf("%d of 20000 trees are valid, %d of them without strings", right, void)
	}
}
