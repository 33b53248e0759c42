package tree

import (
	"fmt"
	"math"
	"reflect"
	"slices"
	"strings"
	"testing"

	"doffer/api"
	"doffer/brackets"
	"doffer/sets"
	"doffer/spell"
)

func one(c byte) Node         { return Node{Kind: Bytes, Set: sets.One(c)} }
func bytesOf(s sets.Set) Node { return Node{Kind: Bytes, Set: s} }
func cat(kids ...Node) Node   { return Node{Kind: Cat, Kids: kids} }
func alt(kids ...Node) Node   { return Node{Kind: Alt, Kids: kids} }
func rep(least, most int, kids ...Node) Node {
	return Node{Kind: Rep, Kids: kids, Min: least, Max: most}
}
func name(s string) Node { return Node{Kind: Name, Text: s} }

// visit is a node that the walk visits, with its level.
type visit struct {
	level int
	node  Node
}

// visits is the walk, by a stack of what is still to be visited.
func visits(n Node) []visit {
	var all []visit
	for stack := []visit{{1, n}}; len(stack) > 0 && len(all) < 601; {
		v := stack[len(stack)-1]
		stack, all = stack[:len(stack)-1], append(all, v)
		if v.level < 25 {
			for k := len(v.node.Kids) - 1; k >= 0; k-- {
				stack = append(stack, visit{v.level + 1, v.node.Kids[k]})
			}
		}
	}
	return all
}

// valid tells whether a node is valid by itself: what its kind uses, it may have, and nothing else.
func valid(n Node) bool {
	may := Node{Kind: n.Kind}
	kids := len(n.Kids)
	n.Kids = nil
	switch n.Kind {
	case Bytes:
		may.Set = n.Set
	case Cat, Alt:
	case Rep:
		if n.Min < 0 || n.Min > 40 || n.Max != -1 && (n.Max < n.Min || n.Max < 1 || n.Max > 40) {
			return false
		}
		may.Min, may.Max = n.Min, n.Max
	case Name:
		if len(n.Text) > 12 || strings.Trim(n.Text, "abcdefghijklmnopqrstuvwxyz0123456789") != "" || strings.IndexAny(n.Text, "abcdefghijklmnopqrstuvwxyz") != 0 {
			return false
		}
		may.Text = n.Text
	default:
		return false
	}
	least := map[int]int{Alt: 2, Rep: 1}[n.Kind]
	most := map[int]int{Cat: math.MaxInt, Alt: math.MaxInt, Rep: 1}[n.Kind]
	return kids >= least && kids <= most && reflect.DeepEqual(n, may)
}

// right tells whether a tree is valid.
func right(n Node) bool {
	all := visits(n)
	return len(all) <= 600 && !slices.ContainsFunc(all, func(v visit) bool { return v.level > 24 || !valid(v.node) })
}

// written is the text of a valid tree, as the chapter words it.
func written(n Node) string {
	kids := []string{}
	for _, k := range n.Kids {
		s := written(k)
		if k.Kind == Alt || k.Kind == Cat && n.Kind != Alt || k.Kind == Rep && n.Kind == Rep {
			s = "(" + s + ")"
		}
		kids = append(kids, s)
	}
	switch n.Kind {
	case Bytes:
		if n.Set.Len() == 1 {
			return spell.Plain(n.Set.List()[0])
		}
		if n.Set.Len() == 255 && !n.Set.Has('\n') {
			return "."
		}
		return brackets.Text(n.Set)
	case Cat:
		if len(kids) == 0 {
			return "()"
		}
		return strings.Join(kids, "")
	case Alt:
		return strings.Join(kids, "|")
	case Rep:
		short, ok := map[[2]int]string{{0, -1}: "*", {1, -1}: "+", {0, 1}: "?"}[[2]int{n.Min, n.Max}]
		switch {
		case ok:
			return kids[0] + short
		case n.Min == n.Max:
			return fmt.Sprintf("%s{%d}", kids[0], n.Min)
		case n.Max == -1:
			return fmt.Sprintf("%s{%d,}", kids[0], n.Min)
		}
		return fmt.Sprintf("%s{%d,%d}", kids[0], n.Min, n.Max)
	}
	return "{" + n.Text + "}"
}

// apart is a copy of a tree, its spare capacity included; kids that are nil and those that are none stay what they are.
func apart(n Node) Node {
	if n.Kids == nil {
		return n
	}
	most := make([]Node, 0, cap(n.Kids))
	for _, k := range n.Kids[:cap(n.Kids)] {
		most = append(most, apart(k))
	}
	n.Kids = most[:len(n.Kids)]
	return n
}

// whole is a tree with its spare capacity as kids, so that it can be compared with another.
func whole(n Node) Node {
	n.Kids = slices.Clone(n.Kids[:cap(n.Kids)])
	for k := range n.Kids {
		n.Kids[k] = whole(n.Kids[k])
	}
	return n
}

// alike tells whether two trees are equal in all fields, kids that are nil and kids that are none alike.
func alike(a, b Node) bool {
	if !slices.EqualFunc(a.Kids, b.Kids, alike) {
		return false
	}
	a.Kids, b.Kids = nil, nil
	return reflect.DeepEqual(a, b)
}

// check checks every call for a tree, which must be finite.
func check(t *testing.T, n Node) {
	t.Helper()
	was := apart(n)
	all := visits(n)
	deepest, names := 0, []string{}
	for _, v := range all {
		deepest = max(deepest, v.level)
		if v.node.Kind == Name && !slices.Contains(names, v.node.Text) {
			names = append(names, v.node.Text)
		}
	}
	ok, want, kept := right(n), "", Node{}
	if ok {
		want, kept = written(n), n
	}
	if got := Right(n); got != ok {
		t.Fatalf("Right(%v) = %v", was, got)
	}
	if got := Text(n); got != want {
		t.Fatalf("Text(%v) = %q, want %q", was, got, want)
	}
	if got := Depth(n); got != deepest {
		t.Fatalf("Depth(%v) = %d, want %d", was, got, deepest)
	}
	if got := Count(n); got != len(all) {
		t.Fatalf("Count(%v) = %d, want %d", was, got, len(all))
	}
	if got := Names(n); !slices.Equal(got, names) {
		t.Fatalf("Names(%v) = %q, want %q", was, got, names)
	}
	if got := Copy(n); !alike(got, kept) {
		t.Fatalf("Copy(%v) = %v", was, got)
	}
	if Same(n, n) != ok || Same(n, was) != ok || Same(Copy(n), n) != ok {
		t.Fatalf("Same(%v) of itself or its copy is not %v", was, ok)
	}
	if !reflect.DeepEqual(whole(n), whole(was)) {
		t.Fatalf("the calls changed %v to %v", was, n)
	}
}

// checks checks every call for a tree that must be valid or not.
func checks(t *testing.T, n Node, ok bool) {
	t.Helper()
	if right(n) != ok {
		t.Fatalf("the model tells that %v is valid: %v", n, !ok)
	}
	check(t, n)
}

// nothing checks that a tree is invalid, and what the calls return for it.
func nothing(t *testing.T, n Node) {
	t.Helper()
	checks(t, n, false)
	if Right(n) || Text(n) != "" || Same(n, n) || !reflect.DeepEqual(Copy(n), Node{}) {
		t.Fatalf("%v is taken as valid", n)
	}
}

func TestChapterExample(t *testing.T) {
	n := Node{Kind: Rep, Min: 0, Max: -1, Kids: []Node{{Kind: Bytes, Set: sets.One('a')}}}
	if got := Text(n); got != "a*" {
		t.Errorf("Text = %q, want a*", got)
	}
	checks(t, n, true)
}

func TestKindsAreTheirNumbers(t *testing.T) {
	if got := [...]int{Bytes, Cat, Alt, Rep, Name}; got != [...]int{1, 2, 3, 4, 5} {
		t.Errorf("the kinds are %v", got)
	}
}

func TestTexts(t *testing.T) {
	a, b, c := one('a'), one('b'), one('c')
	ab, or := cat(a, b), alt(a, b)
	star := rep(0, -1, a)
	for _, w := range []struct {
		n    Node
		text string
	}{
		{a, "a"}, {one('*'), `\*`}, {one('/'), `\/`}, {one(' '), `\s`}, {one('\n'), `\n`}, {one(0), `\x00`}, {one('^'), "^"}, {one('-'), "-"}, {one(';'), ";"},
		{bytesOf(brackets.Dot()), "."}, {bytesOf(sets.All()), `[\x00-\xff]`}, {bytesOf(sets.Set{}), `[^\x00-\xff]`}, {bytesOf(sets.Span('0', '9')), "[0-9]"}, {bytesOf(sets.One('a').Not()), "[^a]"},
		{name("digit"), "{digit}"}, {name("a"), "{a}"}, {name("a1b2"), "{a1b2}"},
		{cat(), "()"}, {cat(a), "a"}, {ab, "ab"}, {cat(a, b, c), "abc"}, {cat(name("a"), name("b")), "{a}{b}"}, {cat(star, rep(1, 2, b)), "a*b{1,2}"},
		{cat(ab), "(ab)"}, {cat(ab, c), "(ab)c"}, {cat(a, cat(b, c)), "a(bc)"}, {cat(or), "(a|b)"}, {cat(or, c), "(a|b)c"}, {cat(cat(a)), "(a)"}, {cat(cat()), "(())"}, {cat(cat(), cat()), "(())(())"}, {cat(a, cat(), b), "a(())b"}, {cat(cat(cat())), "((()))"},
		{or, "a|b"}, {alt(a, b, c), "a|b|c"}, {alt(ab, c), "ab|c"}, {alt(c, ab), "c|ab"}, {alt(cat(), a), "()|a"}, {alt(a, cat()), "a|()"}, {alt(cat(), cat()), "()|()"}, {alt(or, c), "(a|b)|c"}, {alt(c, or), "c|(a|b)"}, {alt(star, name("x")), "a*|{x}"}, {alt(cat(a), cat(or)), "a|(a|b)"}, {alt(a, a), "a|a"},
		{star, "a*"}, {rep(1, -1, a), "a+"}, {rep(0, 1, a), "a?"}, {rep(1, 1, a), "a{1}"}, {rep(2, 2, a), "a{2}"}, {rep(2, -1, a), "a{2,}"}, {rep(0, 2, a), "a{0,2}"}, {rep(1, 2, a), "a{1,2}"}, {rep(40, 40, a), "a{40}"}, {rep(40, -1, a), "a{40,}"}, {rep(0, 40, a), "a{0,40}"}, {rep(39, 40, a), "a{39,40}"},
		{rep(0, -1, ab), "(ab)*"}, {rep(0, -1, or), "(a|b)*"}, {rep(0, -1, cat()), "(())*"}, {rep(0, -1, cat(a)), "(a)*"}, {rep(0, -1, star), "(a*)*"}, {rep(2, 3, rep(0, 1, star)), "((a*)?){2,3}"}, {rep(0, 1, name("a")), "{a}?"}, {rep(3, 3, name("a")), "{a}{3}"}, {rep(0, -1, one('*')), `\**`}, {rep(1, -1, bytesOf(brackets.Dot())), ".+"}, {rep(0, 1, bytesOf(sets.Span('a', 'c'))), "[a-c]?"},
		{cat(rep(0, -1, alt(ab, rep(1, -1, c))), name("end")), "(ab|c+)*{end}"},
	} {
		if got := Text(w.n); got != w.text {
			t.Errorf("Text(%v) = %q, want %q", w.n, got, w.text)
		}
		checks(t, w.n, true)
	}
}

func TestSets(t *testing.T) {
	for c := range 256 {
		s := sets.One(byte(c))
		checks(t, bytesOf(s), true)
		checks(t, bytesOf(s.Not()), true)
		checks(t, bytesOf(sets.Span(byte(c), 255)), true)
		checks(t, bytesOf(sets.Span(0, byte(c)).Minus(sets.One('\n'))), true)
		if got := Text(bytesOf(s.Not())); (got == ".") != (c == 10) {
			t.Errorf("Text of all bytes but %d is %q", c, got)
		}
		checks(t, bytesOf(brackets.Dot().Minus(s)), true)
	}
}

// edges are numbers about those that the chapter names, and far from them.
func edges() []int {
	list := []int{math.MinInt, math.MinInt32, -41, math.MaxInt32, math.MaxInt, 1 << 32, 1<<32 + 1, 80, 255, 256, 257}
	for n := -3; n < 44; n++ {
		list = append(list, n)
	}
	return list
}

func TestRepetitions(t *testing.T) {
	for _, least := range edges() {
		for _, most := range edges() {
			check(t, rep(least, most, one('a')))
		}
	}
	for _, m := range [][2]int{{0, 1}, {1, 1}, {0, 40}, {40, 40}, {0, -1}, {40, -1}} {
		checks(t, rep(m[0], m[1], one('a')), true)
	}
	for _, m := range [][2]int{{0, 0}, {1, 0}, {2, 1}, {40, 39}, {-1, -1}, {-1, 1}, {0, -2}, {41, -1}, {41, 41}, {0, 41}, {40, 41}} {
		nothing(t, rep(m[0], m[1], one('a')))
	}
}

func TestHowManyKids(t *testing.T) {
	for kind, least := range map[int]int{Bytes: 0, Cat: 0, Alt: 2, Rep: 1, Name: 0} {
		most := map[int]int{Cat: 5, Alt: 5, Rep: 1}[kind]
		for kids := range 6 {
			n := Node{Kind: kind, Kids: slices.Repeat([]Node{one('a')}, kids)}
			switch kind {
			case Rep:
				n.Max = 1
			case Name:
				n.Text = "a"
			}
			checks(t, n, kids >= least && kids <= most)
			n.Kids = n.Kids[:kids:kids]
			checks(t, cat(one('b'), n), kids >= least && kids <= most)
		}
	}
}

func TestKindsThatThereAreNot(t *testing.T) {
	for _, kind := range append(edges(), 'a') {
		n := Node{Kind: kind}
		checks(t, n, kind == Bytes || kind == Cat)
		for kids := range 4 {
			n.Kids = append(n.Kids, one('a'))
			checks(t, n, kind == Cat || kind == Alt && kids > 0)
		}
		check(t, Node{Kind: kind, Kids: []Node{one('a')}, Max: -1})
		check(t, Node{Kind: kind, Text: "a"})
	}
	nothing(t, Node{})
}

// fields are changes of one field each, to what isn't zero.
func fields() []func(n *Node) {
	var all []func(n *Node)
	for _, s := range []sets.Set{sets.One(0), sets.One('a'), sets.One(64), sets.One(128), sets.One(255), sets.All(), brackets.Dot()} {
		all = append(all, func(n *Node) { n.Set = s })
	}
	for _, k := range []int{1, -1, 2, 40, 41, math.MaxInt, math.MinInt, 256, 1 << 32} {
		all = append(all, func(n *Node) { n.Min = k }, func(n *Node) { n.Max = k })
	}
	for _, s := range []string{"a", "a1", "0", "\x00", " ", "A", strings.Repeat("a", 13)} {
		all = append(all, func(n *Node) { n.Text = s })
	}
	return all
}

func TestFieldsThatAKindDoesNotUse(t *testing.T) {
	for _, n := range []Node{one('a'), bytesOf(sets.Set{}), cat(), cat(one('a')), alt(one('a'), one('b')), rep(0, -1, one('a')), rep(2, 3, one('a')), name("a")} {
		checks(t, n, true)
		for _, change := range fields() {
			m := n
			change(&m)
			check(t, m)
			check(t, alt(one('a'), cat(m, one('b'))))
			used := m.Set != n.Set && n.Kind == Bytes || (m.Min != n.Min || m.Max != n.Max) && n.Kind == Rep || m.Text != n.Text && n.Kind == Name
			if !used && !reflect.DeepEqual(m, n) {
				nothing(t, m)
				nothing(t, alt(one('a'), cat(m, one('b'))))
			}
		}
	}
}

// isName is IsName, as the chapter words it.
func isName(s string) bool { return valid(name(s)) }

func TestIsName(t *testing.T) {
	both := func(s string, want bool) {
		t.Helper()
		if isName(s) != want {
			t.Fatalf("the model tells that %q is a name: %v", s, !want)
		}
		if got := IsName(s); got != want {
			t.Fatalf("IsName(%q) = %v", s, got)
		}
		if got := Right(cat(name(s))); got != want {
			t.Fatalf("Right(%q) = %v", s, got)
		}
	}
	for c := range 256 {
		s := string([]byte{byte(c)})
		small := c >= 'a' && c <= 'z'
		both(s, small)
		both(s+"a", small)
		both("a"+s, small || c >= '0' && c <= '9')
		both("a"+s+"b", small || c >= '0' && c <= '9')
		both("abcdefghijk"+s, small || c >= '0' && c <= '9')
		both("abcdefghijkl"+s, false)
		check(t, name("a"+s))
	}
	both("", false)
	for n := 1; n < 40; n++ {
		both(strings.Repeat("z", n), n <= api.MaxName)
		both("a"+strings.Repeat("0", n-1), n <= api.MaxName)
		both(strings.Repeat("0", n), false)
	}
	for _, s := range []string{"aé", "é", "a b", "a_b", "aB", "a-b", " a", "a ", "a\n", "1a", "\u0430"} {
		both(s, false)
	}
	both(strings.Repeat("a", 1<<16), false)
	alphabet := "az09A{"
	for n := range 6 * 6 * 6 * 6 {
		s := string([]byte{alphabet[n%6], alphabet[n/6%6], alphabet[n/36%6], alphabet[n/216]})
		both(s, isName(s))
	}
}

// pool is trees of up to three nodes, valid ones and invalid ones.
func pool() []Node {
	leaves := []Node{one('a'), bytesOf(brackets.Dot()), cat(), name("x"), name("y1"), {}, {Kind: 6}, alt(), rep(0, -1), name("X"), {Kind: Bytes, Min: 1}, {Kind: Cat, Text: "x"}}
	all := slices.Clone(leaves)
	for _, a := range leaves {
		all = append(all, cat(a), rep(0, -1, a), rep(2, 3, a), alt(a), Node{Kind: Name, Text: "z", Kids: []Node{a}}, Node{Kids: []Node{a}})
		for _, b := range leaves {
			all = append(all, cat(a, b), alt(a, b), rep(1, 1, a, b), Node{Kind: Bytes, Kids: []Node{a, b}})
		}
	}
	return all
}

func TestEverySmallTree(t *testing.T) {
	all := pool()
	for _, a := range all {
		check(t, a)
		for _, m := range [][2]int{{0, -1}, {1, -1}, {0, 1}, {5, 5}, {0, 0}} {
			check(t, rep(m[0], m[1], a))
			check(t, rep(0, 1, rep(m[0], m[1], a)))
		}
		check(t, Node{Kind: Name, Text: "n", Kids: []Node{a}})
		check(t, Node{Kind: -5, Kids: []Node{name("k"), a, name("j")}})
	}
	for _, a := range all[:140] {
		for _, b := range all {
			check(t, cat(a, b))
			check(t, alt(b, a))
		}
	}
}

func TestSame(t *testing.T) {
	all := append(pool(), bytesOf(sets.One('b')), name("x2"), rep(0, 2, one('a')), rep(1, 2, one('a')), rep(1, -1, one('a')), cat(one('a'), one('a'), one('a')), alt(one('a'), one('a'), one('a')), cat(cat(one('a'), one('a')), one('a')), cat(one('a'), cat(one('a'), one('a'))))
	for i, a := range all {
		for j, b := range all {
			want := i == j && right(a)
			if got := Same(a, b); got != want {
				t.Fatalf("Same(%v, %v) = %v", a, b, got)
			}
			if got := Same(rep(0, 1, cat(name("p"), a)), rep(0, 1, cat(name("p"), b))); got != want {
				t.Fatalf("Same(%v, %v) = %v, each below others", a, b, got)
			}
		}
	}
}

func TestKidsThatAreNilAndKidsThatAreNone(t *testing.T) {
	for _, n := range []Node{one('a'), cat(), name("a")} {
		empty := n
		empty.Kids = make([]Node, 0, 3)
		if !Same(n, empty) || !Same(empty, n) || !Same(cat(n), cat(empty)) || Text(n) != Text(empty) {
			t.Errorf("%v is not the same as %v", n, empty)
		}
		checks(t, empty, true)
		checks(t, cat(empty, n), true)
		got := Copy(empty)
		_ = append(got.Kids, one('z'))
		if !reflect.DeepEqual(empty.Kids[:3], make([]Node, 3)) {
			t.Errorf("the copy of %v shares its memory", empty)
		}
	}
}

// changes calls each with every node of a tree changed in every way, one after the other.
func changes(n *Node, each func()) {
	was := *n
	for _, change := range append(fields(), func(n *Node) { n.Kind++ }, func(n *Node) { n.Kids = append(n.Kids, name("k")) }, func(n *Node) { *n = Node{} }) {
		if change(n); !reflect.DeepEqual(*n, was) {
			each()
		}
		*n = was
	}
	for k := range n.Kids {
		changes(&n.Kids[k], each)
	}
}

func TestCopyIsApart(t *testing.T) {
	n := alt(cat(rep(0, -1, alt(one('a'), name("x"))), rep(2, 3, cat()), name("y")), rep(0, 1, rep(1, 1, cat(one('b'), cat(one('c'))))))
	was := apart(n)
	c := Copy(n)
	changes(&c, func() {
		if !Same(n, was) || Same(n, c) {
			t.Fatalf("%v was changed with its copy", was)
		}
	})
	changes(&n, func() {
		if !Same(c, was) || Same(c, n) {
			t.Fatalf("the copy of %v was changed with it", was)
		}
	})
	checks(t, n, true)
}

// arrays are where the kids of a tree's nodes begin in memory.
func arrays(n Node) []*Node {
	var all []*Node
	if cap(n.Kids) > 0 {
		all = append(all, &n.Kids[:1][0])
	}
	for _, k := range n.Kids {
		all = append(all, arrays(k)...)
	}
	return all
}

func TestKidsThatSeveralNodesShare(t *testing.T) {
	shared := make([]Node, 0, 8)
	shared = append(shared, one('a'), name("b"), cat(one('c')))
	row := cat(shared...)
	n := alt(row, alt(shared[:2]...), cat(row, rep(0, -1, row), cat(shared[1:]...)))
	checks(t, n, true)
	c := Copy(n)
	for k, p := range arrays(c) {
		if slices.Contains(arrays(n), p) || slices.Contains(arrays(c)[:k], p) {
			t.Fatalf("the kids that begin with %v are shared", *p)
		}
	}
}

func TestSpareCapacityIsLeft(t *testing.T) {
	room := []Node{one('a'), one('b'), one('c'), name("d"), {}}
	for n := range len(room) + 1 {
		checks(t, Node{Kind: Cat, Kids: room[:n]}, n < len(room))
		checks(t, cat(Node{Kind: Cat, Kids: room[:n]}, name("e")), n < len(room))
	}
}
