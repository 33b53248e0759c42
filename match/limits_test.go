package match

import (
	"math"
	"slices"
	"testing"

	"doffer/api"
	"doffer/sets"
	"doffer/sizes"
	"doffer/tree"
)

// far are numbers that no index and no length of a text reaches.
var far = []int{math.MinInt, math.MinInt + 1, math.MinInt32, -4097, -2, -1, 4097, 4098, math.MaxInt32, math.MaxInt - 4096, math.MaxInt - 1, math.MaxInt}

func TestNumbersThatAreFar(t *testing.T) {
	n := parse(t, "a*b?")
	list := parseAll(t, "a", "a*b?", "a*")
	for _, text := range [][]byte{nil, []byte("aab"), feed(4096, "a")} {
		longest := min(len(text), 4096)
		for _, x := range far {
			if got := Ends(n, text, x); len(got) > 0 {
				t.Errorf("Ends from %d are %v", x, got)
			}
			for _, most := range append([]int{0, 1, 5}, far...) {
				if got := Longest(n, text, x, most); got != 0 {
					t.Errorf("Longest from %d up to %d is %d", x, most, got)
				}
				if length, k := Best(list, text, x, most); length != 0 || k != -1 {
					t.Errorf("Best from %d up to %d is %d and %d", x, most, length, k)
				}
			}
			for _, from := range []int{0, len(text) / 2, len(text)} {
				want, k := 0, -1
				if x > 0 && from < len(text) {
					want, k = longest-from, 1
				}
				if got := Longest(n, text, from, x); got != want {
					t.Errorf("Longest from %d up to %d is %d, want %d", from, x, got, want)
				}
				if length, m := Best(list, text, from, x); length != want || m != k {
					t.Errorf("Best from %d up to %d is %d and %d, want %d and %d", from, x, length, m, want, k)
				}
			}
		}
	}
}

func TestTextsAboutMaxFeed(t *testing.T) {
	if api.MaxFeed != 4096 {
		t.Fatalf("MaxFeed is %d", api.MaxFeed)
	}
	list := parseAll(t, "a", "a*", "a{3,}", "[^b]*", "(a|aa)+", "()", "(a{0,3}){2,}")
	for length := 4090; length <= 4096; length++ {
		text := feed(length, "a")
		for k, n := range list[1:5] {
			least := Ends(n, text, 0)[0]
			if !Is(n, text) || !slices.Equal(Ends(n, text, 0), to(least, length)) || !slices.Equal(Ends(n, text, 1000), to(1000+least, length)) || Longest(n, text, 7, 5000) != length-7 || Longest(n, text, 7, 4000) != 4000 {
				t.Errorf("of %d bytes, tree %d does not have all", length, k+1)
			}
		}
		if !slices.Equal(Ends(list[5], text, length), []int{length}) || !slices.Equal(Ends(list[1], text, length), []int{length}) {
			t.Errorf("the empty string does not stand at the end of %d bytes", length)
		}
		if got := Least(list, text); got != 1 {
			t.Errorf("Least of %d bytes is %d", length, got)
		}
		if l, k := Best(list, text, 0, 5000); l != length || k != 1 {
			t.Errorf("Best of %d bytes is %d and %d", length, l, k)
		}
	}
	for _, length := range []int{4097, 4098, 5000, 8192, 1 << 20} {
		text := feed(length, "a")
		for _, n := range list {
			nothing(t, n, text)
			// Not even in a part of it that is short enough.
			for _, from := range []int{length - 4096, length - 10, length} {
				if len(Ends(n, text, from)) > 0 || Longest(n, text, from, 1) != 0 || Longest(n, text, from, 4096) != 0 {
					t.Errorf("something stands in %d bytes, from %d", length, from)
				}
			}
		}
		if l, k := Best(list, text, 0, 4096); Least(list, text) != -1 || l != 0 || k != -1 {
			t.Errorf("Best of %d bytes is %d and %d", length, l, k)
		}
		// What is beyond the end of a slice doesn't count.
		if text = text[:4096]; !Is(list[1], text) || Least(list, text) != 1 {
			t.Errorf("4096 bytes of %d are not there", length)
		}
	}
}

// copiesOf is so many kids that are the same.
func copiesOf(count int, n tree.Node) []tree.Node { return slices.Repeat([]tree.Node{n}, count) }

// heavy is a tree of so much weight that has one string.
func heavy(weight int) tree.Node {
	if weight < 40 {
		return cat(copiesOf(weight-1, one('a'))...)
	}
	// The Cat and the Rep weigh 1 each.
	more := (weight - 2) % 32
	return cat(append(copiesOf(more, one('a')), rep(32, 32, heavy((weight-2)/32)))...)
}

func TestWeightsAboutMaxStates(t *testing.T) {
	if api.MaxStates != 4000 {
		t.Fatalf("MaxStates is %d", api.MaxStates)
	}
	for weight := 3950; weight < 4050; weight++ {
		n := heavy(weight)
		length := sizes.Least(n)
		text := feed(length, "a")
		if sizes.Weight(n) != weight || length < 2000 {
			t.Fatalf("the weight is %d, the length %d", sizes.Weight(n), length)
		}
		longer := feed(4096, "a")
		if weight > 4000 {
			nothing(t, n, text)
			nothing(t, n, longer)
			nothing(t, n, nil)
			continue
		}
		if !Is(n, text) || Is(n, longer) || Is(n, text[1:]) || Least([]tree.Node{one('a'), n}, text) != 1 {
			t.Errorf("of weight %d, %d bytes are not all", weight, length)
		}
		if !slices.Equal(Ends(n, longer, 3), []int{length + 3}) || Longest(n, longer, 5, length) != length || Longest(n, longer, 5, length-1) != 0 {
			t.Errorf("of weight %d, %d bytes are not within others", weight, length)
		}
		if l, k := Best([]tree.Node{one('a'), n, n}, longer, 0, 4096); l != length || k != 1 {
			t.Errorf("of weight %d, Best is %d and %d", weight, l, k)
		}
	}
}

// weighing are trees of many shapes, each of which has the text a, of so much weight.
func weighing(weight int) []tree.Node {
	a := one('a')
	all := []tree.Node{
		alt(a, heavy(weight-2)),
		alt(heavy(weight-2), a),
		cat(rep(0, 1, heavy(weight-3)), a),
		cat(a, rep(0, -1, heavy(weight-3))),
		rep(1, 1, alt(heavy(weight-3), a)),
		alt(a, cat(name("n"), heavy(weight-4))),
		alt(a, rep(2, 2, rep(3, 3, name("n"))), heavy(weight-11)),
	}
	// Reps that count their kid many times: 3990 is 30 times 133, 35 times 114 and 38 times 105.
	if rest := weight - 3990; rest > 2 {
		more := copiesOf(rest-3, cat())
		all = append(all,
			cat(append(more, a, rep(0, 30, heavy(133)))...),
			cat(append(more, a, rep(0, 38, heavy(105)))...),
			alt(append(more, a, rep(35, 35, heavy(114)))...),
			alt(append(more, a, rep(34, -1, heavy(114)))...),
			alt(append(more, rep(37, -1, heavy(105)), a)...),
		)
	}
	return all
}

func TestShapesAboutMaxStates(t *testing.T) {
	for weight := 3990; weight < 4012; weight++ {
		for k, n := range weighing(weight) {
			if got := sizes.Weight(n); got != weight {
				t.Fatalf("shape %d weighs %d, want %d", k, got, weight)
			}
			if weight > 4000 {
				for _, text := range []string{"", "a", "ab"} {
					nothing(t, n, []byte(text))
				}
				checkList(t, []tree.Node{n, one('b'), rep(0, -1, one('a'))}, []byte("a"))
				continue
			}
			if !Is(n, []byte("a")) || Is(n, []byte("ab")) || !slices.Contains(Ends(n, []byte("baa"), 1), 2) || Longest(n, []byte("ba"), 1, 4) != 1 || Least([]tree.Node{one('b'), n}, []byte("a")) != 1 {
				t.Errorf("shape %d of weight %d does not have a", k, weight)
			}
		}
	}
}

func TestALongMatchOfATreeThatIsHeavy(t *testing.T) {
	text := feed(4096, "a")
	ab := bytesOf(sets.Span('a', 'b'))
	inner := rep(0, 40, one('a'))
	for _, w := range []struct {
		n    tree.Node
		want []int
	}{
		{rep(40, 40, rep(40, 40, one('a'))), []int{1600}},
		{rep(0, 40, inner), to(0, 1600)},
		{rep(1, 40, rep(0, 40, rep(0, 1, one('a')))), to(0, 1600)},
		{rep(0, -1, inner), to(0, 4096)},
		{cat(copiesOf(97, inner)...), to(0, 97*40)},
		{rep(39, -1, cat(inner, ab, inner)), to(39, 4096)},
		{cat(rep(0, -1, ab), one('a'), rep(38, 38, rep(40, 40, ab))), to(1521, 4096)},
		{cat(rep(0, -1, one('a')), rep(40, 40, rep(40, 40, one('a'))), one('b')), nil},
		{rep(0, -1, alt(rep(40, 40, rep(30, 30, one('a'))), rep(40, 40, rep(40, 40, one('a'))))), []int{0, 1200, 1600, 2400, 2800, 3200, 3600, 4000}},
	} {
		if !may(w.n) {
			t.Fatalf("%v weighs %d", shown(w.n), sizes.Weight(w.n))
		}
		if got := Ends(w.n, text, 0); !slices.Equal(got, w.want) {
			t.Errorf("Ends of %v are %v, want %v", shown(w.n), got, w.want)
		}
	}
}

// TestWaysThatAreMany has trees whose strings fork at each byte, and again within: what follows each way by itself would not come to an end.
func TestWaysThatAreMany(t *testing.T) {
	a, b := one('a'), one('b')
	text := feed(4096, "a")
	n, stars, sums := rep(0, -1, a), a, a
	for range 7 {
		n = rep(0, -1, alt(a, cat(a, n, b)))
	}
	for range 23 {
		stars = rep(0, -1, stars)
	}
	for range 8 {
		sums = alt(cat(sums, a), cat(a, a))
	}
	optional := rep(40, 40, rep(0, 1, a))
	for _, w := range []struct {
		n    tree.Node
		want []int
	}{
		{n, to(0, 4096)},
		{cat(n, b), nil},
		{stars, to(0, 4096)},
		{cat(rep(0, -1, alt(a, a, cat(a, a))), b), nil},
		{cat(rep(0, -1, rep(0, -1, rep(0, -1, alt(a, cat(a, a))))), b), nil},
		{rep(0, -1, alt(cat(a, a), cat(a, a, a))), append([]int{0}, to(2, 4096)...)},
		{cat(optional, rep(40, 40, a)), to(40, 80)},
		{rep(30, 30, optional), to(0, 1200)},
		{sums, to(2, 9)},
	} {
		if !may(w.n) {
			t.Fatalf("%v weighs %d", shown(w.n), sizes.Weight(w.n))
		}
		if got := Ends(w.n, text, 0); !slices.Equal(got, w.want) {
			t.Errorf("Ends of %v are %v, want %v", shown(w.n), got, w.want)
		}
		longest := 0
		if len(w.want) > 0 {
			longest = w.want[len(w.want)-1]
		}
		if got := Longest(w.n, text, 0, 4096); got != longest || Is(w.n, text) != (longest == 4096) {
			t.Errorf("Longest of %v is %d, want %d", shown(w.n), got, longest)
		}
	}
}

func TestLongTexts(t *testing.T) {
	d := draws(12)
	var compared, long int
	for k := range 3000 {
		n := d.tree(2+d.below(6), 2, 0)
		if k%3 > 0 {
			n = rep(d.below(3), -1, n)
		}
		length := []int{40, 300, 4096}[k%3]
		text := d.text(length, []string{"a", "ab", "aaaaaaaaab"}[d.below(3)])
		switch longest := checkLong(t, n, text, d.below(8), []int{length, 50, 20}[d.below(3)]); {
		case longest > 18:
			long++
			fallthrough
		case longest >= 0:
			compared++
		}
	}
	if compared < 2000 || long < 400 {
		t.Errorf("%d trees were compared, %d of them with a long match", compared, long)
	}
}

func TestThatAMatchStopsAtMost(t *testing.T) {
	text := feed(4096, "ab")
	for _, s := range []string{"(ab)*", "(ab)+a?", "[ab]*", "((ab)*a?)?", "(ab|aba)+"} {
		n := parse(t, s)
		ends := Ends(n, text, 0)
		for most := range 200 {
			want := 0
			for _, end := range ends {
				if end <= most {
					want = end
				}
			}
			if got := Longest(n, text, 0, most); got != want {
				t.Errorf("Longest of %q up to %d is %d, want %d", s, most, got, want)
			}
			if l, _ := Best([]tree.Node{name("n"), n}, text, 4094, most); l != min(2, Longest(n, text, 0, min(most, 2))) {
				t.Errorf("Best of %q at the end, up to %d, is %d", s, most, l)
			}
		}
	}
}

// below is a node that is so many levels below others, which a function makes.
func below(n tree.Node, levels int, wrap func(tree.Node) tree.Node) tree.Node {
	for range levels {
		n = wrap(n)
	}
	return n
}

// wraps are ways to have a node below another one.
func wraps() []func(tree.Node) tree.Node {
	all := []func(tree.Node) tree.Node{
		func(n tree.Node) tree.Node { return cat(n) },
		func(n tree.Node) tree.Node { return cat(one('a'), n) },
		func(n tree.Node) tree.Node { return cat(n, rep(0, 1, one('a'))) },
		func(n tree.Node) tree.Node { return alt(n, one('b')) },
		func(n tree.Node) tree.Node { return alt(name("first"), cat(n), name("last")) },
	}
	for _, m := range [][2]int{{0, -1}, {1, -1}, {0, 1}, {1, 1}, {2, 2}, {3, 4}, {0, 40}, {40, -1}} {
		all = append(all, func(n tree.Node) tree.Node { return rep(m[0], m[1], n) })
	}
	return all
}

func TestLevels(t *testing.T) {
	for w, wrap := range wraps() {
		for levels := range 30 {
			for _, leaf := range []tree.Node{one('z'), cat(), name("leaf"), bytesOf(sets.Set{})} {
				n := below(leaf, levels, wrap)
				for _, text := range []string{"", "z", "az", "zzzz", "zaaaa", "b", "aaaaaaaaaaaaaaaaaaaaaaaz"} {
					checkEnds(t, n, []byte(text))
					if !may(n) {
						nothing(t, n, []byte(text))
					}
				}
			}
		}
		deep := below(one('z'), 1<<16, wrap)
		nothing(t, deep, []byte("z"))
		if w == 0 && !Is(below(one('z'), 23, wrap), []byte("z")) {
			t.Errorf("24 levels do not have z")
		}
	}
}

func TestNodes(t *testing.T) {
	for nodes := 590; nodes < 610; nodes++ {
		row, text := cat(copiesOf(nodes-1, one('a'))...), feed(nodes-1, "a")
		choice := alt(append(copiesOf(nodes-3, one('a')), cat(), one('b'))...)
		stars := cat(copiesOf((nodes-1)/2, rep(0, -1, one('a')))...)
		if nodes > 600 {
			nothing(t, row, text)
			nothing(t, choice, []byte("b"))
			nothing(t, choice, nil)
		} else if !Is(row, text) || Is(row, text[1:]) || Is(row, feed(nodes, "a")) || !Is(choice, []byte("b")) || !Is(choice, nil) || !Is(choice, []byte("a")) || Is(choice, []byte("ab")) {
			t.Errorf("%d nodes are not matched", nodes)
		}
		if Is(stars, text) != (1+(nodes-1)/2*2 <= 600) {
			t.Errorf("%d repetitions: %v", (nodes-1)/2, Is(stars, text))
		}
	}
	nothing(t, cat(copiesOf(100000, one('a'))...), []byte("a"))
	nothing(t, alt(copiesOf(100000, one('a'))...), []byte("a"))
}

// invalid are trees that are invalid, each in its own way.
func invalid() []tree.Node {
	a := one('a')
	kids := []tree.Node{a}
	return []tree.Node{
		{}, {Kind: -1}, {Kind: 6}, {Kind: math.MaxInt}, {Kind: math.MinInt}, {Set: sets.One('a')}, {Kind: 6, Kids: kids},
		{Kind: tree.Bytes, Set: a.Set, Kids: kids}, {Kind: tree.Bytes, Set: a.Set, Text: "a"}, {Kind: tree.Bytes, Set: a.Set, Min: 1}, {Kind: tree.Bytes, Set: a.Set, Max: -1},
		{Kind: tree.Cat, Text: "a"}, {Kind: tree.Cat, Set: a.Set}, {Kind: tree.Cat, Min: 1, Kids: kids}, {Kind: tree.Cat, Max: 1, Kids: kids},
		alt(), alt(a), {Kind: tree.Alt, Kids: []tree.Node{a, a}, Min: 1}, {Kind: tree.Alt, Kids: []tree.Node{a, a}, Max: -1}, {Kind: tree.Alt, Kids: []tree.Node{a, a}, Set: a.Set}, {Kind: tree.Alt, Kids: []tree.Node{a, a}, Text: "a"},
		rep(0, -1), rep(1, 1), rep(0, -1, a, a), rep(1, 1, a, a), rep(0, 0, a), rep(2, 1, a), rep(1, 0, a), rep(-1, 1, a), rep(-1, -1, a), rep(0, -2, a), rep(0, 41, a), rep(41, 41, a), rep(41, -1, a), rep(math.MinInt, math.MaxInt, a), rep(math.MaxInt, -1, a),
		{Kind: tree.Rep, Max: -1, Kids: kids, Set: a.Set}, {Kind: tree.Rep, Max: -1, Kids: kids, Text: "a"},
		name(""), name("A"), name("1"), name("a_b"), name("abcdefghijklm"), {Kind: tree.Name, Text: "a", Kids: kids}, {Kind: tree.Name, Text: "a", Set: a.Set}, {Kind: tree.Name, Text: "a", Min: 1}, {Kind: tree.Name, Text: "a", Max: 1},
		below(a, 24, wraps()[0]), below(a, 24, wraps()[5]), below(a, 24, wraps()[3]), cat(copiesOf(600, a)...), alt(copiesOf(600, cat())...),
	}
}

func TestInvalidTrees(t *testing.T) {
	a := one('a')
	for _, n := range invalid() {
		for _, text := range [][]byte{nil, []byte("a"), []byte("aa"), []byte("b"), []byte("aaaaa"), feed(600, "a")} {
			for _, n := range []tree.Node{n, cat(n), cat(a, n), cat(n, a, a), alt(n, a), alt(a, cat(), n), rep(0, -1, n), rep(0, 1, n), rep(2, 3, n), alt(a, cat(a, name("n"), n))} {
				nothing(t, n, text)
			}
		}
		for _, text := range []string{"", "a", "aa", "ab", "ba"} {
			valid := rep(0, -1, a)
			if text == "ab" {
				valid = cat(a, one('b'))
			}
			for _, list := range [][]tree.Node{{n}, {n, n}, {n, valid}, {valid, n}, {n, one('b'), n, valid, n, cat(a, a)}} {
				checkList(t, list, []byte(text))
			}
		}
	}
}

// everywhere calls each with a node in the place of every other one of a tree, one after the other.
func everywhere(n *tree.Node, other tree.Node, each func()) {
	was := *n
	*n = other
	each()
	*n = was
	for k := range n.Kids {
		everywhere(&n.Kids[k], other, each)
	}
}

func TestANodeAnywhere(t *testing.T) {
	n := alt(cat(rep(0, -1, alt(one('a'), name("x"))), cat(), one('b')), rep(2, 3, cat(one('a'), rep(0, 1, cat(one('c'), one('b'))))))
	texts := []string{"", "aab", "acbaacb", "b", "abcabbcaa"}
	for _, bad := range invalid() {
		everywhere(&n, bad, func() {
			for _, text := range texts {
				nothing(t, n, []byte(text))
			}
		})
	}
	for _, good := range smalls() {
		everywhere(&n, good, func() {
			for _, text := range texts {
				check(t, n, []byte(text))
			}
		})
	}
	if !slices.Equal(Ends(n, []byte("aacbb"), 0), []int{2, 4}) {
		t.Errorf("Ends are %v", Ends(n, []byte("aacbb"), 0))
	}
}

func TestATreeThatIsPartOfItself(t *testing.T) {
	for _, kind := range []int{tree.Bytes, tree.Cat, tree.Alt, tree.Rep, tree.Name, 0, 6} {
		for count := 1; count < 5; count++ {
			n := tree.Node{Kind: kind, Kids: make([]tree.Node, count)}
			switch kind {
			case tree.Rep:
				n.Max = -1
			case tree.Name:
				n.Text = "a"
			}
			for k := range n.Kids {
				n.Kids[k] = n
			}
			if Is(n, nil) || Is(n, []byte("a")) || len(Ends(n, []byte("a"), 0)) > 0 || Longest(n, []byte("a"), 0, 1) != 0 || Least([]tree.Node{n, one('a')}, []byte("a")) != 1 {
				t.Errorf("%d of kind %d have strings", count, kind)
			}
			if l, k := Best([]tree.Node{n, n, one('a')}, []byte("a"), 0, 1); l != 1 || k != 2 {
				t.Errorf("%d of kind %d: Best is %d and %d", count, kind, l, k)
			}
		}
	}
}

func TestThatNoCallChangesItsArguments(t *testing.T) {
	room := append(make([]tree.Node, 0, 8), one('a'), rep(0, 1, one('b')), cat(one('c')), one('d'))
	row := cat(room[:3]...)
	list := append(make([]tree.Node, 0, 4), row, rep(0, -1, row), alt(row, cat(room[1:]...)))
	text := append(make([]byte, 0, 64), "abcacbcabcd"...)
	text = text[:9]
	done := unchanged(t, list[:2], text)
	for _, n := range list {
		check(t, n, text)
	}
	for k := range len(list) + 1 {
		checkList(t, list[:k], text)
	}
	done()
	for k := range len(room) + 1 {
		check(t, tree.Node{Kind: tree.Cat, Kids: room[:k]}, text)
	}
}

func TestThatWhatIsReturnedIsTheCallers(t *testing.T) {
	n, text := parse(t, "[ab]*"), []byte("abab")
	for range 3 {
		ends := Ends(n, text, 1)
		if !slices.Equal(ends, []int{1, 2, 3, 4}) {
			t.Fatalf("Ends are %v", ends)
		}
		clear(ends[:cap(ends)])
	}
	check(t, n, text)
}
