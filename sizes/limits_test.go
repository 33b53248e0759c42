package sizes

import (
	"math"
	"slices"
	"testing"

	"doffer/api"
	"doffer/sets"
	"doffer/tree"
)

// copiesOf is so many kids that are the same.
func copiesOf(count int, n tree.Node) []tree.Node { return slices.Repeat([]tree.Node{n}, count) }

// long is a tree whose only string has so many bytes, by Reps within each other.
func long(length int) tree.Node {
	if length < 32 {
		return cat(copiesOf(length, one('a'))...)
	}
	return cat(append(copiesOf(length%32, one('a')), rep(32, 32, long(length/32)))...)
}

// heavy is a tree of so much weight.
func heavy(weight int) tree.Node {
	if weight < 40 {
		return cat(copiesOf(weight-1, one('a'))...)
	}
	// The Cat and the Rep weigh 1 each.
	more := (weight - 2) % 32
	return cat(append(copiesOf(more, one('a')), rep(32, 32, heavy((weight-2)/32)))...)
}

// abouts are numbers about Huge.
func abouts() []int {
	list := []int{Huge / 2, Huge * 2, Huge * 3, Huge * 31}
	for n := Huge - 40; n < Huge+40; n++ {
		list = append(list, n)
	}
	return list
}

func TestLengthsAboutHuge(t *testing.T) {
	for _, length := range abouts() {
		n, want := long(length), min(length, Huge)
		if Least(n) != want || Most(n) != want || Void(n) || Nullable(n) || First(n) != sets.One('a') || Last(n) != sets.One('a') {
			t.Errorf("of a string of %d bytes it is told %v", length, calls(n))
		}
		check(t, n)
		check(t, cat(n, n))
		for _, w := range []struct {
			n           tree.Node
			least, most int
		}{
			{cat(n, one('b')), length + 1, length + 1},
			{cat(one('b'), one('b'), n), length + 2, length + 2},
			{alt(n, one('b')), 1, length},
			{alt(cat(n, one('b')), n), length, length + 1},
			{alt(one('b'), n, cat()), 0, length},
			{alt(name("n"), n), length, length},
			{rep(0, 1, n), 0, length},
			{rep(1, 1, n), length, length},
			{rep(1, 2, n), length, 2 * length},
			{rep(2, 40, n), 2 * length, 40 * length},
			{rep(0, -1, n), 0, Huge},
			{rep(1, -1, n), length, Huge},
			{rep(3, -1, n), 3 * length, Huge},
			{cat(rep(0, 1, n), one('b')), 1, length + 1},
			{cat(n, cat(), n), 2 * length, 2 * length},
		} {
			if Least(w.n) != min(w.least, Huge) || Most(w.n) != min(w.most, Huge) {
				t.Errorf("Least and Most are %d and %d, want %d and %d", Least(w.n), Most(w.n), w.least, w.most)
			}
			check(t, w.n)
		}
		if n := cat(n, name("n")); calls(n) != nothing {
			t.Errorf("beside a name, of a string of %d bytes it is told %v", length, calls(n))
		}
	}
}

func TestLengthsWithoutBound(t *testing.T) {
	star := rep(0, -1, one('a'))
	for _, w := range []struct {
		n           tree.Node
		least, most int
	}{
		{star, 0, Huge},
		{cat(star, star), 0, Huge},
		{cat(one('b'), star), 1, Huge},
		{alt(star, one('b')), 0, Huge},
		{alt(one('b'), cat(one('b'), star)), 1, Huge},
		{rep(0, 1, star), 0, Huge},
		{rep(40, 40, star), 0, Huge},
		{rep(40, -1, star), 0, Huge},
		{rep(40, -1, rep(40, -1, one('a'))), 1600, Huge},
		{cat(star, name("n")), -1, -1},
		{cat(name("n"), star), -1, -1},
		{rep(0, -1, cat(star, name("n"))), 0, 0},
	} {
		if Least(w.n) != w.least || Most(w.n) != w.most {
			t.Errorf("Least and Most of %v are %d and %d, want %d and %d", shown(w.n), Least(w.n), Most(w.n), w.least, w.most)
		}
		check(t, w.n)
	}
}

func TestWeightsAboutHuge(t *testing.T) {
	for _, weight := range abouts() {
		n := heavy(weight)
		for _, w := range []struct {
			n      tree.Node
			weight int
		}{
			{n, weight},
			{cat(n), weight + 1},
			{cat(n, one('a')), weight + 2},
			{alt(name("n"), n), weight + 2},
			{alt(n, n), 2*weight + 1},
			{rep(0, 1, n), weight + 1},
			{rep(0, -1, n), weight + 1},
			{rep(1, -1, n), 2*weight + 1},
			{rep(3, 40, n), 40*weight + 1},
			{rep(0, 40, cat(n, name("n"))), 40*(weight+2) + 1},
		} {
			if got := Weight(w.n); got != min(w.weight, Huge) {
				t.Errorf("Weight is %d, want %d", got, w.weight)
			}
			check(t, w.n)
		}
	}
}

func TestWeightOfARepWithoutBoundCountsItsMinAndOne(t *testing.T) {
	for least := range 41 {
		for w := 1; w < 30; w++ {
			if got := Weight(rep(least, -1, heavy(w))); got != 1+(least+1)*w {
				t.Errorf("Weight of {%d,} of %d is %d", least, w, got)
			}
		}
	}
}

// below is a node that is so many levels below others, which a function makes.
func below(n tree.Node, levels int, wrap func(tree.Node) tree.Node) tree.Node {
	for range levels {
		n = wrap(n)
	}
	return n
}

// wraps are ways to have a node below another one.
func wraps() []func(tree.Node) tree.Node {
	all := []func(tree.Node) tree.Node{
		func(n tree.Node) tree.Node { return cat(n) },
		func(n tree.Node) tree.Node { return cat(one('a'), n) },
		func(n tree.Node) tree.Node { return cat(n, rep(0, 1, one('a'))) },
		func(n tree.Node) tree.Node { return alt(n, one('b')) },
		func(n tree.Node) tree.Node { return alt(name("first"), cat(n), name("last")) },
	}
	for _, m := range [][2]int{{0, -1}, {1, -1}, {0, 1}, {1, 1}, {2, 2}, {3, 4}, {0, 40}, {40, 40}, {39, 40}, {40, -1}} {
		all = append(all, func(n tree.Node) tree.Node { return rep(m[0], m[1], n) })
	}
	return all
}

func TestLevels(t *testing.T) {
	for _, wrap := range wraps() {
		for levels := range 40 {
			for _, leaf := range []tree.Node{one('z'), bytesOf(sets.Span('y', 'z')), cat(), name("leaf"), bytesOf(sets.Set{})} {
				n := below(leaf, levels, wrap)
				check(t, n)
				check(t, cat(n, one('c')))
				if deep := tree.Depth(n) > api.MaxDepth; deep && (calls(n) != nothing || Weight(n) != 0) || !deep && Weight(n) == 0 {
					t.Errorf("of %v it is told %v, its weight %d", shown(n), calls(n), Weight(n))
				}
			}
		}
	}
	n := below(one('a'), 23, wraps()[12])
	if want := (told{false, false, Huge, Huge, sets.One('a'), sets.One('a'), sets.One('a')}); calls(n) != want || Weight(n) != Huge {
		t.Errorf("of 24 levels it is told %v, its weight %d", calls(n), Weight(n))
	}
	if n = cat(n); calls(n) != nothing || Weight(n) != 0 {
		t.Errorf("of 25 levels it is told %v, its weight %d", calls(n), Weight(n))
	}
	if n = below(one('a'), 1<<16, wraps()[0]); calls(n) != nothing || Weight(n) != 0 {
		t.Errorf("of 65537 levels it is told %v, its weight %d", calls(n), Weight(n))
	}
}

func TestNodes(t *testing.T) {
	a := one('a')
	huge := rep(40, 40, rep(40, 40, rep(40, 40, rep(40, 40, a))))
	for nodes := 590; nodes < 610; nodes++ {
		row := copiesOf(nodes-1, a)
		n, m := cat(row...), alt(row...)
		check(t, n)
		check(t, m)
		check(t, rep(40, 40, n))
		check(t, cat(append(copiesOf(nodes-5, cat()), rep(0, 1, a), one('b'), name("n"))...))
		if nodes <= api.MaxNodes {
			is(t, n, lang(nodes-1, nodes-1, "a", "a", "a"), nodes)
			is(t, m, lang(1, 1, "a", "a", "a"), nodes)
		} else {
			is(t, n, nothing, 0)
			is(t, m, nothing, 0)
		}
	}
	is(t, cat(copiesOf(119, huge)...), lang(Huge, Huge, "a", "a", "a"), Huge)
	is(t, alt(copiesOf(119, huge)...), lang(Huge, Huge, "a", "a", "a"), Huge)
	is(t, cat(copiesOf(120, huge)...), nothing, 0)
	is(t, cat(copiesOf(299, rep(0, -1, a))...), lang(0, Huge, "a", "a", "a"), 599)
	is(t, cat(copiesOf(300, rep(0, -1, a))...), nothing, 0)
	is(t, cat(copiesOf(100000, a)...), nothing, 0)
}

// invalid are trees that are invalid, each in its own way.
func invalid() []tree.Node {
	a := one('a')
	kids := []tree.Node{a}
	return []tree.Node{
		{}, {Kind: -1}, {Kind: 6}, {Kind: math.MaxInt}, {Kind: math.MinInt}, {Set: sets.One('a')}, {Kind: 6, Kids: kids},
		{Kind: tree.Bytes, Set: a.Set, Kids: kids}, {Kind: tree.Bytes, Set: a.Set, Text: "a"}, {Kind: tree.Bytes, Set: a.Set, Min: 1}, {Kind: tree.Bytes, Set: a.Set, Max: -1},
		{Kind: tree.Cat, Text: "a"}, {Kind: tree.Cat, Set: a.Set}, {Kind: tree.Cat, Min: 1, Kids: kids}, {Kind: tree.Cat, Max: 1, Kids: kids},
		alt(), alt(a), {Kind: tree.Alt, Kids: []tree.Node{a, a}, Min: 1}, {Kind: tree.Alt, Kids: []tree.Node{a, a}, Max: -1}, {Kind: tree.Alt, Kids: []tree.Node{a, a}, Set: a.Set}, {Kind: tree.Alt, Kids: []tree.Node{a, a}, Text: "a"},
		rep(0, -1), rep(1, 1), rep(0, -1, a, a), rep(1, 1, a, a), rep(0, 0, a), rep(2, 1, a), rep(1, 0, a), rep(-1, 1, a), rep(-1, -1, a), rep(0, -2, a), rep(0, 41, a), rep(41, 41, a), rep(41, -1, a), rep(math.MinInt, math.MaxInt, a), rep(math.MaxInt, -1, a),
		{Kind: tree.Rep, Max: -1, Kids: kids, Set: a.Set}, {Kind: tree.Rep, Max: -1, Kids: kids, Text: "a"},
		name(""), name("A"), name("1"), name("a_b"), name("abcdefghijklm"), {Kind: tree.Name, Text: "a", Kids: kids}, {Kind: tree.Name, Text: "a", Set: a.Set}, {Kind: tree.Name, Text: "a", Min: 1}, {Kind: tree.Name, Text: "a", Max: 1},
		below(a, 24, wraps()[0]), below(a, 24, wraps()[5]), below(a, 24, wraps()[3]), cat(copiesOf(600, a)...), alt(copiesOf(600, cat())...),
	}
}

func TestInvalidTrees(t *testing.T) {
	a := one('a')
	for _, n := range invalid() {
		is(t, n, nothing, 0)
		is(t, cat(n), nothing, 0)
		is(t, cat(a, n), nothing, 0)
		is(t, cat(n, a, a), nothing, 0)
		is(t, alt(n, a), nothing, 0)
		is(t, alt(a, cat(), n), nothing, 0)
		is(t, alt(cat(a, name("n"), n), a), nothing, 0)
		is(t, rep(0, -1, n), nothing, 0)
		is(t, rep(0, 1, n), nothing, 0)
		is(t, rep(2, 3, n), nothing, 0)
		for _, wrap := range wraps() {
			is(t, alt(a, below(n, 21, wrap)), nothing, 0)
		}
	}
}

// everywhere calls each with a node in the place of every other one of a tree, one after the other.
func everywhere(n *tree.Node, other tree.Node, each func()) {
	was := *n
	*n = other
	each()
	*n = was
	for k := range n.Kids {
		everywhere(&n.Kids[k], other, each)
	}
}

func TestANodeAnywhere(t *testing.T) {
	n := alt(cat(rep(0, -1, alt(one('a'), name("x"))), cat(), one('b')), rep(2, 3, cat(one('d'), rep(0, 1, cat(one('c'), one('e'))))))
	for _, bad := range invalid() {
		everywhere(&n, bad, func() { is(t, n, nothing, 0) })
	}
	for _, good := range smalls() {
		everywhere(&n, good, func() { checkAll(t, n, drawn) })
	}
	is(t, n, lang(1, Huge, "abd", "bde", "abcde"), 27)
}

func TestATreeThatIsPartOfItself(t *testing.T) {
	for _, kind := range []int{tree.Bytes, tree.Cat, tree.Alt, tree.Rep, tree.Name, 0, 6} {
		for count := 1; count < 5; count++ {
			n := tree.Node{Kind: kind, Kids: make([]tree.Node, count)}
			switch kind {
			case tree.Rep:
				n.Max = -1
			case tree.Name:
				n.Text = "a"
			}
			for k := range n.Kids {
				n.Kids[k] = n
			}
			if calls(n) != nothing || Weight(n) != 0 {
				t.Errorf("%d of kind %d: it is told %v, the weight %d", count, kind, calls(n), Weight(n))
			}
		}
	}
}

func TestKidsThatSeveralNodesShare(t *testing.T) {
	room := append(make([]tree.Node, 0, 8), one('a'), rep(0, 1, one('b')), cat(one('c')), one('d'))
	row := cat(room[:3]...)
	n := alt(row, alt(room[:2]...), cat(row, rep(0, -1, row), cat(room[1:]...)))
	checkAll(t, n, drawn)
	for k := range len(room) + 1 {
		checkAll(t, tree.Node{Kind: tree.Cat, Kids: room[:k]}, drawn)
	}
}

func TestWhatIsReturnedIsTheCallers(t *testing.T) {
	n := cat(one('a'), one('b'))
	first, last, alphabet := First(n), Last(n), Alphabet(n)
	first[0], last[1], alphabet[2] = 1, 2, 3
	is(t, n, lang(2, 2, "a", "b", "ab"), 3)
}
