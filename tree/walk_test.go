package tree

import (
	"math"
	"reflect"
	"slices"
	"strconv"
	"testing"

	"doffer/api"
)

// below is a node that is so many levels below others, which a function makes.
func below(n Node, levels int, wrap func(Node) Node) Node {
	for range levels {
		n = wrap(n)
	}
	return n
}

// wraps are ways to have a node below another one.
func wraps() []func(Node) Node {
	return []func(Node) Node{
		func(n Node) Node { return rep(0, -1, n) },
		func(n Node) Node { return cat(n) },
		func(n Node) Node { return cat(one('a'), n) },
		func(n Node) Node { return alt(n, one('b')) },
		func(n Node) Node { return alt(name("first"), cat(n), name("last")) },
		func(n Node) Node { return cat(alt(rep(2, 3, n), name("x")), n) },
	}
}

func TestLevels(t *testing.T) {
	for _, wrap := range wraps()[:4] {
		for levels := range 40 {
			for _, leaf := range []Node{one('z'), cat(), name("leaf")} {
				n := below(leaf, levels, wrap)
				checks(t, n, levels+1 <= api.MaxDepth)
				if got := Depth(n); got != min(levels+1, api.MaxDepth+1) {
					t.Fatalf("Depth is %d for %d levels", got, levels+1)
				}
				checks(t, alt(one('a'), n), levels+2 <= api.MaxDepth)
				checks(t, alt(n, name("behind")), levels+2 <= api.MaxDepth)
			}
		}
	}
	for _, wrap := range wraps()[4:] {
		for levels := range 16 {
			check(t, below(one('z'), levels, wrap))
		}
	}
	far := below(name("far"), 60000, wraps()[0])
	if Right(far) || Text(far) != "" || Depth(far) != 25 || Count(far) != 25 || len(Names(far)) != 0 || Same(far, far) || !reflect.DeepEqual(Copy(far), Node{}) {
		t.Error("60001 levels are not taken as more than 24")
	}
}

func TestTheLastLevelThatIsVisited(t *testing.T) {
	at := func(level int, n Node) Node {
		return cat(name("ahead"), below(n, level-2, wraps()[1]), name("behind"))
	}
	for level := 2; level < 30; level++ {
		want := []string{"ahead", "low", "behind"}
		if level > api.MaxDepth+1 {
			want = []string{"ahead", "behind"}
		}
		n := at(level, name("low"))
		if got := Names(n); !slices.Equal(got, want) {
			t.Errorf("Names are %q with one on level %d", got, level)
		}
		checks(t, n, level <= api.MaxDepth)
		nothing(t, at(level, Node{}))
		nothing(t, at(level, alt(name("lower"))))
		count := Count(at(level, cat(name("lower"), name("lower"), one('a'))))
		if want := 2 + min(level, 25) + 3*min(1, max(0, 25-level)); count != want {
			t.Errorf("Count is %d with four nodes on level %d and below, want %d", count, level, want)
		}
	}
}

// many is so many kids, which a function makes.
func many(count int, each func(k int) Node) []Node {
	all := []Node{}
	for k := range count {
		all = append(all, each(k))
	}
	return all
}

func TestNodes(t *testing.T) {
	leaf := func(int) Node { return one('a') }
	pair := func(int) Node { return rep(0, 1, one('a')) }
	for _, c := range []struct{ nodes, kids, pairs int }{
		{599, 598, 0}, {600, 599, 0}, {601, 600, 0}, {602, 601, 0}, {1000, 999, 0},
		{599, 0, 299}, {600, 1, 299}, {601, 0, 300}, {602, 1, 300}, {603, 0, 301},
	} {
		kids := append(many(c.kids, leaf), many(c.pairs, pair)...)
		for range 2 {
			n, m := cat(kids...), alt(kids...)
			checks(t, n, c.nodes <= api.MaxNodes)
			checks(t, m, c.nodes <= api.MaxNodes)
			checks(t, rep(1, -1, n), c.nodes+1 <= api.MaxNodes)
			if got := Count(n); got != min(c.nodes, api.MaxNodes+1) {
				t.Errorf("Count is %d for %d nodes", got, c.nodes)
			}
			slices.Reverse(kids)
		}
	}
	for levels := range 12 {
		check(t, below(one('a'), levels, func(n Node) Node { return cat(n, n) }))
	}
	great := cat(many(100000, func(k int) Node { return name("n" + strconv.Itoa(k)) })...)
	nothing(t, great)
	if got := Names(great); len(got) != 600 || got[599] != "n599" {
		t.Errorf("Names of 100000 are %d", len(got))
	}
}

func TestTheLastNodeThatIsVisited(t *testing.T) {
	for nodes := 596; nodes < 606; nodes++ {
		n := cat(append(many(nodes-2, func(int) Node { return name("ahead") }), name("behind"))...)
		want := []string{"ahead", "behind"}
		if nodes > api.MaxNodes+1 {
			want = want[:1]
		}
		if got := Names(n); !slices.Equal(got, want) {
			t.Errorf("Names are %q with one as node %d", got, nodes)
		}
		checks(t, n, nodes <= api.MaxNodes)
		n.Kids[nodes-2] = Node{}
		nothing(t, n)
		// Its last kid has levels of its own, of which the walk sees as many as it has nodes left.
		for levels := range 8 {
			n.Kids[nodes-2] = below(one('a'), levels, wraps()[0])
			checks(t, n, nodes+levels <= api.MaxNodes)
			if got, want := Depth(n), 2+min(levels, 601-nodes); nodes <= 601 && got != want {
				t.Errorf("Depth is %d with %d levels below node %d, want %d", got, levels, nodes, want)
			}
		}
	}
}

func TestLevelsAndNodesAtOnce(t *testing.T) {
	low := cat(many(576, func(int) Node { return one('a') })...)
	n := below(low, 22, wraps()[1])
	checks(t, n, true)
	if Depth(n) != 24 || Count(n) != 599 {
		t.Errorf("Depth and Count are %d and %d", Depth(n), Count(n))
	}
	checks(t, cat(n), false)
	checks(t, below(cat(append(low.Kids, one('b'))...), 22, wraps()[1]), true)
	checks(t, below(cat(append(low.Kids, one('b'), one('c'))...), 22, wraps()[1]), false)
}

func TestNames(t *testing.T) {
	a, b, c := name("a"), name("b"), name("c")
	deep := rep(0, -1, alt(c, cat(a, c)))
	for _, w := range []struct {
		n     Node
		names []string
	}{
		{a, []string{"a"}},
		{one('a'), nil},
		{cat(), nil},
		{cat(a, b, c), []string{"a", "b", "c"}},
		{cat(c, b, a), []string{"c", "b", "a"}},
		{cat(b, a, b, b, a), []string{"b", "a"}},
		{cat(b, deep, a), []string{"b", "c", "a"}},
		{alt(deep, b, a), []string{"c", "a", "b"}},
		{cat(a, name("aa"), name("a0"), a), []string{"a", "aa", "a0"}},
		{name(""), []string{""}},
		{cat(name("A"), name(""), name("a b"), name("A"), name("")), []string{"A", "", "a b"}},
		{Node{Kind: Name, Text: "a", Kids: []Node{c, b}}, []string{"a", "c", "b"}},
		{Node{Kind: Bytes, Text: "a", Kids: []Node{c, b, c}}, []string{"c", "b"}},
		{Node{Kind: 77, Text: "a", Kids: []Node{c, {Text: "b"}, c}}, []string{"c"}},
		{rep(5, 2, alt(b)), []string{"b"}},
		{cat(Node{Kind: Cat, Text: "a"}, Node{Kind: Rep, Text: "b"}), nil},
	} {
		if got := Names(w.n); !slices.Equal(got, w.names) {
			t.Errorf("Names(%v) = %q, want %q", w.n, got, w.names)
		}
		check(t, w.n)
	}
	n := cat(a, b, c)
	Names(n)[0] = "changed"
	if got := Names(n); !slices.Equal(got, []string{"a", "b", "c"}) {
		t.Errorf("Names = %q when others were changed", got)
	}
}

// everywhere calls each with a node in the place of every other one of a tree, one after the other.
func everywhere(n *Node, other Node, each func()) {
	was := *n
	*n = other
	each()
	*n = was
	for k := range n.Kids {
		everywhere(&n.Kids[k], other, each)
	}
}

func TestAnInvalidNodeAnywhere(t *testing.T) {
	n := alt(cat(rep(0, -1, alt(one('a'), name("x"))), cat(), one('b')), rep(2, 3, cat(name("y"), rep(0, 1, cat(one('c'), name("z"))))))
	was := apart(n)
	for _, bad := range []Node{{}, {Kind: 6}, {Kind: -1}, {Kind: Bytes, Text: "a"}, alt(), alt(one('a')), rep(0, -1), rep(0, 0, one('a')), rep(1, 1, one('a'), one('b')), name(""), name("X"), {Kind: Name, Text: "x", Kids: []Node{one('a')}}, {Kind: Cat, Min: 1}, {Kind: Bytes, Kids: []Node{one('a')}}} {
		nothing(t, bad)
		everywhere(&n, bad, func() {
			nothing(t, n)
			if Same(n, was) || Same(was, n) {
				t.Fatalf("%v is the same as %v", n, was)
			}
		})
	}
	for _, good := range []Node{bytesOf(one('b').Set.Not()), cat(cat()), name("other")} {
		everywhere(&n, good, func() {
			checks(t, n, true)
			if Same(n, was) || Same(was, n) || !Same(n, apart(n)) {
				t.Fatalf("Same of %v and %v is wrong", n, was)
			}
		})
	}
	checks(t, n, true)
}

func TestATreeThatIsPartOfItself(t *testing.T) {
	for _, kind := range []int{Bytes, Cat, Alt, Rep, Name, 0, 6, math.MaxInt} {
		for count := 1; count < 5; count++ {
			n := Node{Kind: kind, Kids: make([]Node, count)}
			switch kind {
			case Rep:
				n.Max = -1
			case Name:
				n.Text = "a"
			}
			for k := range n.Kids {
				n.Kids[k] = n
			}
			if Right(n) || Text(n) != "" || Same(n, n) || !reflect.DeepEqual(Copy(n), Node{}) {
				t.Errorf("%d of kind %d is valid", count, kind)
			}
			if got := Count(n); Depth(n) != 25 || got != 25 && count == 1 || got != 601 && count > 1 {
				t.Errorf("%d of kind %d: Depth and Count are %d and %d", count, kind, Depth(n), got)
			}
			if got := len(Names(n)); got != len(n.Text) {
				t.Errorf("%d of kind %d: Names are %d", count, kind, got)
			}
		}
	}
}

// draws are numbers that look random and are the same each time.
type draws uint32

func (d *draws) below(n int) int {
	*d = *d*1664525 + 1013904223
	return int(uint64(*d) * uint64(n) >> 32)
}

// tree is a tree of at most so many levels, whose nodes are valid by themselves; of a hundred nodes, so many are changed.
func (d *draws) tree(levels, changed int) Node {
	var n Node
	kid := func(int) Node { return d.tree(levels-1, changed) }
	switch kind := d.below(5); {
	case kind == 0:
		n = name([]string{"a", "b", "c1", "abcdefghijkl"}[d.below(4)])
	case kind == 1 || levels <= 1:
		n = one(byte(d.below(256)))
		if d.below(2) == 0 {
			n.Set = n.Set.Not()
		}
	case kind == 2:
		n = cat(many(d.below(4), kid)...)
	case kind == 3:
		n = alt(many(2+d.below(2), kid)...)
	default:
		least := d.below(4)
		n = rep(least, []int{-1, 1 + least, max(1, least), 40}[d.below(4)], kid(0))
	}
	if d.below(100) < changed {
		all := fields()
		all[d.below(len(all))](&n)
	}
	return n
}

func TestTreesThatLookRandom(t *testing.T) {
	d := draws(7)
	valid := 0
	for k := range 6000 {
		n := d.tree(1+d.below(12), k%3)
		check(t, n)
		if right(n) {
			valid++
		}
		m := apart(n)
		everywhere(&m, d.tree(2, 0), func() {
			if d.below(10) == 0 && Same(n, m) != (right(n) && right(m) && alike(n, m)) {
				t.Fatalf("Same(%v, %v) = %v", n, m, Same(n, m))
			}
		})
	}
	if valid < 3000 || valid == 6000 {
		t.Errorf("%d of 6000 trees are valid", valid)
	}
}
