package names

import (
	"errors"
	"math"
	"reflect"
	"slices"
	"strconv"
	"strings"
	"testing"

	"doffer/api"
	"doffer/sets"
	"doffer/tree"
)

func TestLimitsAreTheirNumbers(t *testing.T) {
	if api.MaxNames != 32 || api.MaxName != 12 || api.MaxDepth != 24 || api.MaxNodes != 600 {
		t.Errorf("MaxNames %d, MaxName %d, MaxDepth %d, MaxNodes %d", api.MaxNames, api.MaxName, api.MaxDepth, api.MaxNodes)
	}
}

func TestMaxNames(t *testing.T) {
	for _, copying := range []bool{false, true} {
		b := New()
		var m model
		for k := range 40 {
			s := "n" + strconv.Itoa(k)
			if copying {
				b = b.Copy()
			}
			next := checkAdd(t, b, m, s, cat(one(byte(k)), name("n"+strconv.Itoa(max(k-1, 0)))))
			if (len(next) > len(m)) != (k < 32) {
				t.Errorf("the model adds %s: %v", s, len(next) > len(m))
			}
			m = next
			checkHeld(t, b, m, s, "n32", "n33", "x")
			// A full book says so only of what is not there.
			checkAdd(t, b, m, "n0", one('a'))
			checkAdd(t, b, m, "n"+strconv.Itoa(k), one('a'))
			checkAdd(t, b, m, "n_", one('a'))
			checkAdd(t, b, m, "n99", alt())
		}
		if got := len(b.All()); got != 32 {
			t.Errorf("there are %d names", got)
		}
	}
}

// chain is a book of so many names, each of which stands for the next one, and the last one for a tree. They are added in one order or the other.
func chain(t *testing.T, length int, last tree.Node, forwards bool) (*Book, model) {
	t.Helper()
	b := New()
	var m model
	for k := range length {
		if !forwards {
			k = length - 1 - k
		}
		n := name("n" + strconv.Itoa(k+1))
		if k == length-1 {
			n = last
		}
		m = checkAdd(t, b, m, "n"+strconv.Itoa(k), n)
	}
	return b, m
}

func TestChainsOfNames(t *testing.T) {
	for length := 1; length <= 32; length++ {
		for _, forwards := range []bool{true, false} {
			for last, want := range map[string]error{"xy*": nil, "{nope}": api.ErrNone, "{n0}": api.ErrLoop, "x{n" + strconv.Itoa(length-1) + "}": api.ErrLoop, "x{n" + strconv.Itoa(length/2) + "}{nope}": api.ErrLoop, "{nope}{n0}": api.ErrNone} {
				b, m := chain(t, length, parse(t, last), forwards)
				for _, s := range []string{"{n0}", "(z|{n0}*)?", "{n0}{n0}", "{n" + strconv.Itoa(length/2) + "}", "{n" + strconv.Itoa(length-1) + "}{n0}"} {
					if err := checkTree(t, b, m, parse(t, s)); !errors.Is(err, want) {
						t.Errorf("%d names up to %q: Spread(%q) is %v, want %v", length, last, s, err, want)
					}
				}
				if got := b.Uses(name("n0")); len(got) < length || got[length-1] != "n"+strconv.Itoa(length-1) {
					t.Errorf("Uses with %d names is %q", length, got)
				}
			}
		}
	}
}

// wraps are ways to have a node on the next level.
func wraps() []func(tree.Node) tree.Node {
	return []func(tree.Node) tree.Node{
		in,
		func(n tree.Node) tree.Node { return cat(one('a'), n) },
		func(n tree.Node) tree.Node { return cat(n, one('a')) },
		func(n tree.Node) tree.Node { return alt(n, cat()) },
		func(n tree.Node) tree.Node { return alt(one('b'), n) },
		func(n tree.Node) tree.Node { return rep(0, -1, n) },
		func(n tree.Node) tree.Node { return rep(2, 3, n) },
	}
}

func TestLevelsAboutMaxDepth(t *testing.T) {
	for _, wrap := range wraps() {
		for outer := range 24 {
			for inner := 18 - outer; inner < 30-outer; inner++ {
				if inner < 1 || inner > 24 {
					continue
				}
				b := New()
				m := checkAdd(t, b, nil, "a", below(one('z'), inner-1, wrap))
				m = checkAdd(t, b, m, "b", name("a"))
				for _, s := range []string{"a", "b"} {
					var want error
					if outer+inner > 24 {
						want = api.ErrDepth
					}
					n := below(name(s), outer, wrap)
					if err := checkTree(t, b, m, n); !errors.Is(err, want) {
						t.Errorf("%d levels and %d: Spread is %v", outer, inner, err)
					}
				}
			}
		}
	}
}

func TestLevelsOverSeveralNames(t *testing.T) {
	// Each name stands for one that is so many levels below, and the last one for a leaf.
	for levels := range 6 {
		for length := 1; length <= 31; length++ {
			b := New()
			m := checkAdd(t, b, nil, "n0", one('z'))
			for k := range length {
				m = checkAdd(t, b, m, "n"+strconv.Itoa(k+1), below(name("n"+strconv.Itoa(k)), levels, in))
			}
			for outer := range 3 {
				var want error
				if outer+levels*length+1 > 24 {
					want = api.ErrDepth
				}
				n := below(name("n"+strconv.Itoa(length)), outer, in)
				if err := checkTree(t, b, m, n); !errors.Is(err, want) {
					t.Errorf("%d and %d times %d levels: Spread is %v", outer, length, levels, err)
				}
			}
		}
	}
}

func TestANameBelowTheLastLevel(t *testing.T) {
	// The last name stands for a Cat of names on a level, what each stands for is on the same one.
	for _, w := range []struct {
		book  string
		level int // of the Cat
		want  error
	}{
		{"l={a}; a=x", 23, nil},
		{"l={a}; a=x", 24, api.ErrDepth},
		{"l={a}; a={b}; b=x", 23, nil},
		{"l={a}; a={b}; b=x", 24, api.ErrDepth},
		{"l={a}; a={a}", 23, api.ErrLoop},
		// A name may be on any level: only what is not a name is too deep.
		{"l={a}; a={a}", 24, api.ErrLoop},
		{"l={a}; a={b}; b={a}", 24, api.ErrLoop},
		{"l={l}", 24, api.ErrLoop},
		{"l={a}", 24, api.ErrNone},
		{"l={a}; a={b}", 24, api.ErrNone},
		{"l={a}; a={b}; b={a}{c}", 24, api.ErrDepth},
		{"l={a}{c}; a=x", 24, api.ErrDepth},
		{"l={c}{a}; a=x", 24, api.ErrNone},
		{"l={a}{c}; a=x", 23, api.ErrNone},
		{"l={l}{c}{a}; a=x", 24, api.ErrLoop},
		{"l={a}; a=x{b}", 23, api.ErrDepth},
		{"l={a}; a={b}x", 23, api.ErrNone},
		{"l={a}; a={a}x", 23, api.ErrLoop},
		{"l={a}; a=x{a}", 23, api.ErrDepth},
	} {
		b := New()
		var m model
		for s := range strings.SplitSeq(w.book, "; ") {
			n, text, _ := strings.Cut(s, "=")
			stands := parse(t, text)
			if n == "l" && stands.Kind != tree.Cat {
				stands = cat(stands)
			}
			m = checkAdd(t, b, m, n, stands)
		}
		n := below(name("l"), w.level-1, in)
		if err := checkTree(t, b, m, n); !errors.Is(err, w.want) {
			t.Errorf("with %q from level %d: Spread is %v, want %v", w.book, w.level, err, w.want)
		}
	}
}

func TestNodesAboutMaxNodes(t *testing.T) {
	a := one('a')
	for inner := 1; inner <= 600; inner += 1 + inner/7 {
		b := New()
		stands := a
		if inner > 1 {
			stands = cat(copiesOf(inner-1, a)...)
		}
		m := checkAdd(t, b, nil, "a", stands)
		m = checkAdd(t, b, m, "b", name("a"))
		for _, times := range []int{1, 2, 3, 10, 599} {
			for more := 597 - inner*times; more < 604-inner*times; more++ {
				if more < 0 || more+times > 599 {
					continue
				}
				for _, kids := range [][]tree.Node{
					append(copiesOf(times, name("a")), copiesOf(more, a)...),
					append(copiesOf(more, cat()), copiesOf(times, name("b"))...),
				} {
					var want error
					if 1+more+inner*times > 600 {
						want = api.ErrLimit
					}
					if err := checkTree(t, b, m, cat(kids...)); !errors.Is(err, want) {
						t.Errorf("%d nodes and %d times %d: Spread is %v", more+1, times, inner, err)
					}
				}
			}
		}
	}
}

func TestThatNamesAreNotCounted(t *testing.T) {
	a := one('a')
	full := cat(copiesOf(599, a)...)
	b, m := chain(t, 30, full, true)
	m = checkAdd(t, b, m, "one", a)
	// 599 names are nodes of a valid tree, and what replaces them is as many.
	many := cat(copiesOf(599, name("one"))...)
	for _, n := range []tree.Node{name("n0"), name("n29"), full, many} {
		if err := checkTree(t, b, m, n); err != nil {
			t.Errorf("Spread is %v", err)
		}
	}
	got, _ := b.Spread(many)
	if !tree.Same(got, full) || tree.Count(got) != 600 {
		t.Errorf("Spread has %d nodes", tree.Count(got))
	}
	m = checkAdd(t, b, m, "many", many)
	for _, w := range []struct {
		n    tree.Node
		want error
	}{
		{name("many"), nil},
		{cat(name("many")), api.ErrLimit},
		{rep(0, -1, name("n3")), api.ErrLimit},
		{cat(append(copiesOf(598, a), name("many"))...), api.ErrLimit},
		// After MaxNodes nodes, a name is looked for before what replaces it is one more.
		{alt(append(copiesOf(598, a), name("nope"))...), api.ErrNone},
		{cat(append(copiesOf(597, a), name("one"), name("nope"))...), api.ErrNone},
		{cat(append(copiesOf(597, a), name("one"), name("one"))...), nil},
		{cat(append(copiesOf(597, a), name("n0"), name("nope"))...), api.ErrLimit},
	} {
		if err := checkTree(t, b, m, w.n); !errors.Is(err, w.want) {
			t.Errorf("Spread is %v, want %v", err, w.want)
		}
	}
}

func TestWhichErrorComesFirst(t *testing.T) {
	a := one('a')
	full := cat(copiesOf(599, a)...)
	most := cat(copiesOf(598, a)...) // with a Cat around it, there is no room for another node
	deep := below(a, 23, in)
	b := New()
	m := checkAdd(t, b, nil, "full", full)
	m = checkAdd(t, b, m, "most", most)
	m = checkAdd(t, b, m, "deep", deep)
	m = checkAdd(t, b, m, "loop", cat(name("loop")))
	m = checkAdd(t, b, m, "self", name("self"))
	m = checkAdd(t, b, m, "a", a)
	m = checkAdd(t, b, m, "ends", cat(append(copiesOf(598, a), name("ends"))...))
	m = checkAdd(t, b, m, "lacks", cat(append(copiesOf(598, a), name("nope"))...))
	m = checkAdd(t, b, m, "over", cat(append(copiesOf(598, a), name("deep"))...))
	for _, w := range []struct {
		n    tree.Node
		want error
	}{
		{cat(name("most"), name("a")), api.ErrLimit},
		{cat(name("most"), name("nope")), api.ErrNone},
		{cat(name("most"), name("self")), api.ErrLoop},
		{cat(name("most"), name("loop")), api.ErrLimit},
		{cat(name("most"), name("deep")), api.ErrLimit},
		{cat(name("deep"), name("full")), api.ErrDepth},
		{cat(name("full"), name("nope")), api.ErrLimit},
		{cat(name("nope"), name("full")), api.ErrNone},
		{cat(name("self"), name("full")), api.ErrLoop},
		{cat(name("loop"), name("deep")), api.ErrLoop},
		{cat(name("deep"), name("loop")), api.ErrDepth},
		{name("ends"), api.ErrLoop},
		{cat(name("ends")), api.ErrLoop},
		{cat(a, name("ends")), api.ErrLimit},
		{name("lacks"), api.ErrNone},
		{cat(name("lacks")), api.ErrNone},
		{cat(a, name("lacks")), api.ErrLimit},
		{name("over"), api.ErrLimit},
		{below(name("ends"), 23, in), api.ErrDepth},
		{below(name("ends"), 22, in), api.ErrLimit},
	} {
		if err := checkTree(t, b, m, w.n); !errors.Is(err, w.want) {
			t.Errorf("Spread(%v) is %v, want %v", shown(w.n), err, w.want)
		}
	}
}

func TestTheLastNodeOnTheLastLevel(t *testing.T) {
	a := one('a')
	for _, level := range []int{22, 23} {
		for more := range 490 {
			b := New()
			m := checkAdd(t, b, nil, "two", cat(a))
			m = checkAdd(t, b, m, "hundred", cat(copiesOf(99, a)...))
			// On the level there is a Cat, whose last kid stands for two nodes, one below the other.
			n := cat(name("hundred"), below(cat(append(copiesOf(more, a), name("two"))...), level-2, in))
			before := 100 + level + more
			var want error
			switch {
			case before+1 > 600:
				want = api.ErrLimit
			case level+2 > 24:
				// Even if the node is also one too many.
				want = api.ErrDepth
			case before+2 > 600:
				want = api.ErrLimit
			}
			if err := checkTree(t, b, m, n); !errors.Is(err, want) {
				t.Errorf("%d nodes before, from level %d: Spread is %v, want %v", before, level, err, want)
			}
		}
	}
}

// growing is a book in which each name stands for the one before it so many times.
func growing(t *testing.T, length, times int) (*Book, model) {
	t.Helper()
	b := New()
	m := checkAdd(t, b, nil, "n0", one('z'))
	for k := range length {
		m = checkAdd(t, b, m, "n"+strconv.Itoa(k+1), cat(copiesOf(times, name("n"+strconv.Itoa(k)))...))
	}
	return b, m
}

func TestThatWhatGrowsFastEndsSoon(t *testing.T) {
	for _, times := range []int{1, 2, 3, 4, 24, 25, 40, 598, 599} {
		b, m := growing(t, 31, times)
		count := 1
		for k := range 32 {
			var want error
			switch {
			case k >= 24:
				// The first leaf is on level k+1, and only levels are above it.
				want = api.ErrDepth
			case count > 600:
				want = api.ErrLimit
			}
			if err := checkTree(t, b, m, name("n"+strconv.Itoa(k))); !errors.Is(err, want) {
				t.Errorf("%d times, %d names: Spread is %v, want %v", times, k, err, want)
			}
			// One more than so many times what the one before stands for.
			count = min(1+times*count, 601)
		}
	}
}

// invalid are trees that are invalid, each in its own way.
func invalid() []tree.Node {
	a := one('a')
	kids := []tree.Node{a}
	return []tree.Node{
		{}, {Kind: -1}, {Kind: 6}, {Kind: math.MaxInt}, {Kind: math.MinInt}, {Set: sets.One('a')}, {Kind: 6, Kids: kids}, {Text: "a"}, {Kind: 6, Text: "a"},
		{Kind: tree.Bytes, Set: a.Set, Kids: kids}, {Kind: tree.Bytes, Set: a.Set, Text: "a"}, {Kind: tree.Bytes, Set: a.Set, Min: 1}, {Kind: tree.Bytes, Set: a.Set, Max: -1},
		{Kind: tree.Cat, Text: "a"}, {Kind: tree.Cat, Set: a.Set}, {Kind: tree.Cat, Min: 1, Kids: kids}, {Kind: tree.Cat, Max: 1, Kids: kids},
		alt(), alt(a), alt(name("a")), {Kind: tree.Alt, Kids: []tree.Node{a, a}, Min: 1}, {Kind: tree.Alt, Kids: []tree.Node{a, a}, Max: -1}, {Kind: tree.Alt, Kids: []tree.Node{a, a}, Set: a.Set}, {Kind: tree.Alt, Kids: []tree.Node{a, a}, Text: "a"},
		rep(0, -1), rep(1, 1), rep(0, -1, a, a), rep(1, 1, a, a), rep(0, 0, a), rep(2, 1, a), rep(1, 0, a), rep(-1, 1, a), rep(-1, -1, a), rep(0, -2, a), rep(0, 41, a), rep(41, 41, a), rep(41, -1, a), rep(math.MinInt, math.MaxInt, a), rep(math.MaxInt, -1, name("a")),
		{Kind: tree.Rep, Max: -1, Kids: kids, Set: a.Set}, {Kind: tree.Rep, Max: -1, Kids: kids, Text: "a"},
		name(""), name("A"), name("1"), name("a_b"), name("abcdefghijklm"), name("a "), name("{a}"), name("\xff"), {Kind: tree.Name, Text: "a", Kids: kids}, {Kind: tree.Name, Text: "a", Set: a.Set}, {Kind: tree.Name, Text: "a", Min: 1}, {Kind: tree.Name, Text: "a", Max: 1},
		below(a, 24, in), below(name("a"), 24, in), below(a, 1<<16, in), cat(copiesOf(600, a)...), cat(copiesOf(600, name("a"))...), alt(copiesOf(600, cat())...), cat(copiesOf(100000, name("b"))...),
	}
}

// refused checks that each call takes a tree as invalid.
func refused(t *testing.T, n tree.Node) {
	t.Helper()
	b, m := made(t, "a=x{b}", "b=y")
	done := unchanged(t, n)
	for _, s := range []string{"a", "c"} {
		if err := b.Add(s, n); !errors.Is(err, api.ErrForm) {
			t.Fatalf("Add(%q, %v) is %v", s, n, err)
		}
	}
	if err := b.Add("C", n); !errors.Is(err, api.ErrName) {
		t.Fatalf("Add of an invalid name is %v", err)
	}
	if got, err := b.Spread(n); !errors.Is(err, api.ErrForm) || !reflect.DeepEqual(got, tree.Node{}) {
		t.Fatalf("Spread(%v) is %v and %v", n, got, err)
	}
	if got := b.Uses(n); len(got) > 0 {
		t.Fatalf("Uses(%v) is %q", n, got)
	}
	done()
	checkHeld(t, b, m, "c", "C")
	if got, err := b.Spread(name("a")); err != nil || tree.Text(got) != "xy" {
		t.Fatalf("Spread is %v and %v", got, err)
	}
}

func TestInvalidTrees(t *testing.T) {
	a := name("a")
	for _, n := range invalid() {
		for _, n := range []tree.Node{n, cat(n), cat(a, n), cat(n, a, a), alt(n, a), alt(a, cat(), n), rep(0, -1, n), rep(2, 3, n), alt(a, cat(a, name("n"), n)), cat(name("nope"), n)} {
			refused(t, n)
		}
	}
}

// everywhere calls each with a node in the place of every other one of a tree, one after the other.
func everywhere(n *tree.Node, other tree.Node, each func()) {
	was := *n
	*n = other
	each()
	*n = was
	for k := range n.Kids {
		everywhere(&n.Kids[k], other, each)
	}
}

// mixed is a tree with nodes of each kind within each other.
func mixed() tree.Node {
	return alt(cat(rep(0, -1, alt(one('a'), name("x"))), cat(), one('b')), rep(2, 3, cat(one('a'), rep(0, 1, cat(one('c'), one('b'))))))
}

func TestANodeAnywhere(t *testing.T) {
	n := mixed()
	for _, bad := range invalid() {
		everywhere(&n, bad, func() { refused(t, n) })
	}
	b, m := made(t, "x=yz", "a={x}", "b={c}{a}", "d={b}|{d}")
	for _, good := range append(smalls(), name("x"), name("d"), rep(2, 40, alt(name("x"), name("b")))) {
		everywhere(&n, good, func() {
			checkTree(t, b, m, n)
			with := b.Copy()
			m := checkAdd(t, with, m, "c", n)
			for _, s := range []string{"a", "b", "c", "d", "x"} {
				checkTree(t, with, m, name(s))
				checkTree(t, with, m, cat(name(s), n))
			}
		})
	}
}

func TestATreeThatIsPartOfItself(t *testing.T) {
	for _, kind := range []int{tree.Bytes, tree.Cat, tree.Alt, tree.Rep, tree.Name, 0, 6} {
		for count := 1; count < 5; count++ {
			n := tree.Node{Kind: kind, Kids: make([]tree.Node, count)}
			switch kind {
			case tree.Rep:
				n.Max = -1
			case tree.Name:
				n.Text = "a"
			}
			for k := range n.Kids {
				n.Kids[k] = n
			}
			b, m := made(t, "a=x{b}", "b=y")
			got, err := b.Spread(n)
			if !errors.Is(err, api.ErrForm) || !reflect.DeepEqual(got, tree.Node{}) || len(b.Uses(n)) > 0 {
				t.Errorf("%d of kind %d: Spread is %v", count, kind, err)
			}
			if err := b.Add("c", n); !errors.Is(err, api.ErrForm) {
				t.Errorf("%d of kind %d: Add is %v", count, kind, err)
			}
			checkHeld(t, b, m, "c")
		}
	}
}

func TestNamesOfEachLengthAndByte(t *testing.T) {
	b := New()
	var m model
	bad := []string{"", "0", "0a", "9", "A", "aB", "a_", "a-b", "a b", " a", "a\n", "\x00", "a\x00", "é", "aé", "{a}", "ａ", strings.Repeat("a", 13), strings.Repeat("a", 1<<16), "a0000000000000"}
	for c := range 256 {
		if c < 'a' || c > 'z' {
			bad = append(bad, string([]byte{byte(c)}), string([]byte{byte(c), 'a'}), "abcdefghijk"+string([]byte{byte(c)})+"a")
			if c < '0' || c > '9' {
				bad = append(bad, string([]byte{'a', byte(c)}), string([]byte{'a', byte(c), 'z'}))
			}
		}
	}
	for _, s := range bad {
		if err := b.Add(s, one('x')); !errors.Is(err, api.ErrName) {
			t.Errorf("Add(%q) is %v", s, err)
		}
		if err := b.Add(s, tree.Node{}); !errors.Is(err, api.ErrName) {
			t.Errorf("Add(%q) of an invalid tree is %v", s, err)
		}
	}
	checkHeld(t, b, m, bad...)
	good := []string{"a", "z", "a0", "z9", "q7x", "digit", "abcdefghijkl", "a01234567890"[:12], "zzzzzzzzzzzz", "a9a9a9a9a9a9"}
	for n := 1; n <= 12; n++ {
		good = append(good, "b"+strings.Repeat("5", n-1))
	}
	slices.Sort(good)
	for k, s := range slices.Compact(good) {
		m = checkAdd(t, b, m, s, cat(one(byte(k)), name("zzzzzzzzzzz")))
		if len(m) != k+1 {
			t.Errorf("%q is no name", s)
		}
		checkTree(t, b, m, name(s))
	}
	checkHeld(t, b, m, bad...)
	// What is a part of a name, or has one as a part, is another one.
	checkHeld(t, b, m, "d", "di", "digi", "digits", "igit", "abcdefghijk", "bb")
}
