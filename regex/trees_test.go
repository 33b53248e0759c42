package regex

import (
	"math"
	"reflect"
	"slices"
	"testing"

	"doffer/api"
	"doffer/brackets"
	"doffer/sets"
	"doffer/tree"
)

// bare is what Simple must return for a valid tree, from the leaves on.
func bare(n tree.Node) tree.Node {
	var kids []tree.Node
	for _, k := range n.Kids {
		kids = append(kids, bare(k))
	}
	if n.Kind == tree.Cat && len(kids) == 1 {
		return kids[0]
	}
	n.Kids = kids
	return n
}

// apart is a copy of a tree, its spare capacity included.
func apart(n tree.Node) tree.Node {
	if n.Kids == nil {
		return n
	}
	most := slices.Clone(n.Kids[:cap(n.Kids)])
	for k := range most {
		most[k] = apart(most[k])
	}
	n.Kids = most[:len(n.Kids):len(most)]
	return n
}

// whole is a tree with its spare capacity as kids, so that it can be compared with another.
func whole(n tree.Node) tree.Node {
	n.Kids = slices.Clone(n.Kids[:cap(n.Kids)])
	for k := range n.Kids {
		n.Kids[k] = whole(n.Kids[k])
	}
	return n
}

// checkTree checks Plain and Simple of a tree, which must be finite, and that what Simple returns is parsed again.
func checkTree(t *testing.T, n tree.Node) {
	t.Helper()
	was := apart(n)
	want := tree.Node{}
	if tree.Right(n) {
		want = bare(n)
	}
	got := Simple(n)
	if !alike(got, want) {
		t.Fatalf("Simple(%v) = %v, want %v", was, got, want)
	}
	if plain := tree.Right(n) && alike(n, want); Plain(n) != plain {
		t.Fatalf("Plain(%v) = %v", was, !plain)
	}
	if tree.Right(n) {
		if !tree.Right(got) || !Plain(got) || !tree.Same(Simple(got), got) {
			t.Fatalf("Simple(%v) = %v is not valid and plain", was, got)
		}
		again(t, got)
	}
	spoil(got)
	if !reflect.DeepEqual(whole(n), whole(was)) {
		t.Fatalf("the calls, or a change of what they returned, changed %v to %v", was, n)
	}
}

// plain checks that a tree is plain, and the text of it.
func plain(t *testing.T, n tree.Node, text string) {
	t.Helper()
	if !Plain(n) || tree.Text(n) != text || !tree.Same(Simple(n), n) {
		t.Errorf("%v: Plain is %v, the text is %q", n, Plain(n), tree.Text(n))
	}
	is(t, text, n)
	checkTree(t, n)
}

func TestTextsOfPlainTrees(t *testing.T) {
	a, b := one('a'), one('b')
	none, ab, or, star := cat(), cat(a, b), alt(a, b), rep(0, -1, a)
	plain(t, a, "a")
	plain(t, one('*'), `\*`)
	plain(t, one(' '), `\s`)
	plain(t, one(0xff), `\xff`)
	plain(t, oneOfSet(brackets.Dot()), ".")
	plain(t, oneOfSet(sets.Set{}), `[^\x00-\xff]`)
	plain(t, oneOfSet(sets.All()), `[\x00-\xff]`)
	plain(t, oneOfSet(sets.Span('a', 'c')), "[a-c]")
	plain(t, name("digit"), "{digit}")
	plain(t, none, "()")
	plain(t, cat(none, none), "(())(())")
	plain(t, cat(a, none, b), "a(())b")
	plain(t, cat(ab, a), "(ab)a")
	plain(t, cat(a, ab), "a(ab)")
	plain(t, cat(or, star, name("n")), "(a|b)a*{n}")
	plain(t, alt(none, none), "()|()")
	plain(t, alt(none, a), "()|a")
	plain(t, alt(a, none), "a|()")
	plain(t, alt(ab, or), "ab|(a|b)")
	plain(t, alt(or, ab, star), "(a|b)|ab|a*")
	plain(t, rep(0, -1, none), "(())*")
	plain(t, rep(0, -1, ab), "(ab)*")
	plain(t, rep(1, -1, or), "(a|b)+")
	plain(t, rep(0, 1, star), "(a*)?")
	plain(t, rep(3, 3, rep(2, -1, rep(1, 4, a))), "((a{1,4}){2,}){3}")
	plain(t, rep(0, 40, name("n")), "{n}{0,40}")
	plain(t, rep(1, 1, a), "a{1}")
	plain(t, rep(40, 40, a), "a{40}")
}

func TestTextsOfEveryRep(t *testing.T) {
	for least := range 41 {
		for most := range 41 {
			if most >= least && most > 0 {
				checkTree(t, rep(least, most, one('a')))
				checkTree(t, cat(rep(least, most, name("n")), name("n")))
			}
		}
		checkTree(t, rep(least, -1, one('a')))
	}
}

func TestTextsOfEverySet(t *testing.T) {
	for lo := range 256 {
		for hi := lo; hi < 256; hi++ {
			s := sets.Span(byte(lo), byte(hi))
			again(t, oneOfSet(s))
			again(t, cat(oneOfSet(s.Not()), rep(0, 1, oneOfSet(s))))
		}
	}
}

func TestEverySmallTree(t *testing.T) {
	pool := []tree.Node{one('a'), one('{'), name("n"), oneOfSet(brackets.Dot()), oneOfSet(sets.Span('0', '9')), cat()}
	for range 2 {
		var next []tree.Node
		for _, k := range pool {
			next = append(next, cat(k), rep(0, -1, k), rep(2, 3, k))
			for _, l := range pool[:min(len(pool), 24)] {
				next = append(next, cat(k, l), alt(k, l), alt(k, cat(l)))
			}
		}
		for _, n := range next {
			checkTree(t, n)
			checkTree(t, cat(n))
			checkTree(t, cat(one('b'), n, rep(1, -1, n)))
		}
		pool = append(pool, next...)
	}
	if len(pool) < 5000 {
		t.Errorf("only %d trees", len(pool))
	}
}

// simple checks what Simple returns for a valid tree that is not plain.
func simple(t *testing.T, n, want tree.Node) {
	t.Helper()
	if Plain(n) || !Plain(want) || !tree.Same(Simple(n), want) {
		t.Errorf("%v: Plain is %v, and Simple is %v", n, Plain(n), Simple(n))
	}
	checkTree(t, n)
}

func TestCatsOfOneKid(t *testing.T) {
	a, b := one('a'), one('b')
	for _, leaf := range []tree.Node{a, cat(), name("n"), oneOfSet(sets.Set{}), cat(a, b), alt(a, b), rep(0, -1, a)} {
		simple(t, cat(leaf), leaf)
		simple(t, cat(cat(leaf)), leaf)
		simple(t, cat(cat(cat(leaf))), leaf)
		simple(t, alt(cat(leaf), b), alt(leaf, b))
		simple(t, alt(b, cat(cat(leaf))), alt(b, leaf))
		simple(t, alt(cat(leaf), cat(leaf), cat(leaf)), alt(leaf, leaf, leaf))
		simple(t, rep(2, 3, cat(leaf)), rep(2, 3, leaf))
		simple(t, rep(0, -1, cat(cat(leaf))), rep(0, -1, leaf))
		simple(t, cat(cat(leaf), b), cat(leaf, b))
		simple(t, cat(b, cat(leaf), cat(cat(leaf))), cat(b, leaf, leaf))
		simple(t, cat(rep(0, 1, cat(alt(cat(leaf), cat(b, cat(a)))))), rep(0, 1, alt(leaf, cat(b, a))))
		simple(t, alt(alt(a, cat(leaf)), rep(1, -1, rep(0, 1, cat(leaf)))), alt(alt(a, leaf), rep(1, -1, rep(0, 1, leaf))))
	}
}

func TestCatsOfOneKidAboutTheLimits(t *testing.T) {
	n := one('a')
	for levels := 1; levels < 60; levels++ {
		if levels > api.MaxDepth {
			invalid(t, n)
		} else if levels > 1 {
			simple(t, n, one('a'))
		}
		checkTree(t, alt(n, one('b')))
		checkTree(t, rep(0, -1, n))
		n = cat(n)
	}
	for count := 590; count < 606; count++ {
		var kids []tree.Node
		for range count / 2 {
			kids = append(kids, cat(one('a')))
		}
		checkTree(t, cat(kids...))
		checkTree(t, alt(kids...))
		checkTree(t, cat(append(kids, one('b'))...))
		checkTree(t, cat(alt(kids...)))
	}
}

// invalid checks what Plain and Simple return for an invalid tree.
func invalid(t *testing.T, n tree.Node) {
	t.Helper()
	if Plain(n) || !reflect.DeepEqual(Simple(n), tree.Node{}) {
		t.Errorf("%v is taken as valid: Simple is %v", n, Simple(n))
	}
}

func TestInvalidTrees(t *testing.T) {
	a := one('a')
	for _, n := range []tree.Node{
		{}, {Kind: -1}, {Kind: 6}, {Kind: math.MaxInt}, {Kind: math.MinInt},
		{Kind: tree.Bytes, Kids: []tree.Node{a}}, {Kind: tree.Bytes, Text: "a"}, {Kind: tree.Bytes, Min: 1}, {Kind: tree.Bytes, Max: -1},
		{Kind: tree.Cat, Text: "a"}, {Kind: tree.Cat, Set: sets.All()}, {Kind: tree.Cat, Min: 1, Kids: []tree.Node{a}}, {Kind: tree.Cat, Max: 1, Kids: []tree.Node{a}},
		alt(), alt(a), {Kind: tree.Alt, Kids: []tree.Node{a, a}, Min: 1},
		rep(0, -1), rep(0, -1, a, a), rep(0, 0, a), rep(2, 1, a), rep(-1, 1, a), rep(0, -2, a), rep(0, 41, a), rep(41, 41, a), rep(41, -1, a), rep(math.MinInt, math.MaxInt, a),
		name(""), name("A"), name("1"), name("abcdefghijklm"), {Kind: tree.Name, Text: "a", Kids: []tree.Node{a}}, {Kind: tree.Name, Text: "a", Set: sets.One('a')},
	} {
		invalid(t, n)
		invalid(t, cat(n))
		invalid(t, cat(cat(n)))
		invalid(t, cat(a, n))
		invalid(t, alt(cat(n), a))
		invalid(t, rep(0, -1, cat(n)))
		checkTree(t, n)
		checkTree(t, cat(a, cat(n)))
	}
	for _, kind := range []int{tree.Bytes, tree.Cat, tree.Alt, tree.Rep, tree.Name, 0, 6} {
		for count := 1; count < 4; count++ {
			n := tree.Node{Kind: kind, Kids: make([]tree.Node, count)}
			for k := range n.Kids {
				n.Kids[k] = n
			}
			invalid(t, n)
			invalid(t, cat(n))
		}
	}
	far := one('a')
	for range 1 << 16 {
		far = cat(far)
	}
	invalid(t, far)
}

// tree is a tree of at most so many levels; of a hundred nodes, so many are Cats of one kid, and so many are wrecked.
func (d *draws) tree(levels, padded, wrecked int) tree.Node {
	if levels > 1 && d.below(100) < padded {
		return cat(d.tree(levels-1, padded, wrecked))
	}
	if d.below(100) < wrecked {
		return []tree.Node{{}, rep(0, 0, one('a')), alt(one('a')), name("A"), {Kind: tree.Cat, Min: 1}}[d.below(5)]
	}
	switch kind := d.below(6); {
	case kind == 0:
		return name([]string{"a", "b", "c1", "abcdefghijkl"}[d.below(4)])
	case kind == 1 || levels <= 1:
		s := sets.One(byte(d.below(256))).Or(sets.Span(byte(d.below(256)), byte(d.below(256))))
		return oneOfSet([]sets.Set{s, s.Not(), sets.One(byte(s.Least()))}[d.below(3)])
	case kind == 2:
		return cat()
	case kind == 3:
		least := d.below(4)
		return rep(least, []int{-1, 1 + least, max(1, least), 40}[d.below(4)], d.tree(levels-1, padded, wrecked))
	}
	var kids []tree.Node
	for range 2 + d.below(2) {
		kids = append(kids, d.tree(levels-1, padded, wrecked))
	}
	if d.below(2) == 0 {
		return cat(kids...)
	}
	return alt(kids...)
}

func TestTreesThatLookRandom(t *testing.T) {
	d := draws(9)
	right := 0
	for k := range 30000 {
		n := d.tree(1+d.below(10), 8*(k%4), max(0, k%8-6))
		checkTree(t, n)
		if tree.Right(n) {
			right++
		}
	}
	if right < 15000 || right == 30000 {
		t.Errorf("%d of 30000 trees are valid", right)
	}
}
