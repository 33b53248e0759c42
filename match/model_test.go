package match

import (
	"fmt"
	"reflect"
	"regexp"
	"slices"
	"strings"
	"testing"

	"doffer/api"
	"doffer/sets"
	"doffer/sizes"
	"doffer/tree"
)

func one(c byte) tree.Node            { return bytesOf(sets.One(c)) }
func bytesOf(s sets.Set) tree.Node    { return tree.Node{Kind: tree.Bytes, Set: s} }
func cat(kids ...tree.Node) tree.Node { return tree.Node{Kind: tree.Cat, Kids: kids} }
func alt(kids ...tree.Node) tree.Node { return tree.Node{Kind: tree.Alt, Kids: kids} }
func name(s string) tree.Node         { return tree.Node{Kind: tree.Name, Text: s} }
func rep(least, most int, kids ...tree.Node) tree.Node {
	return tree.Node{Kind: tree.Rep, Kids: kids, Min: least, Max: most}
}

// shown is the text of a tree, or all of it if it is invalid.
func shown(n tree.Node) any {
	if !tree.Right(n) {
		return n
	}
	return tree.Text(n)
}

// may tells whether there may be anything in a tree's language.
func may(n tree.Node) bool { return tree.Right(n) && sizes.Weight(n) <= 4000 }

// pairs are pairs of indices of a text of at most 63 bytes: bit j of row i is set if the text from i to j is meant.
type pairs []uint64

// then is what is a pair of the one, followed by one of the other.
func (p pairs) then(q pairs) pairs {
	both := make(pairs, len(p))
	for i, row := range p {
		for j := range q {
			if row>>j&1 == 1 {
				both[i] |= q[j]
			}
		}
	}
	return both
}

// or is what is a pair of one of both.
func (p pairs) or(q pairs) pairs {
	both := slices.Clone(p)
	for i, row := range q {
		both[i] |= row
	}
	return both
}

// has tells whether a pair is there.
func (p pairs) has(i, j int) bool { return p[i]>>j&1 == 1 }

// stays are the pairs of each index with itself: the empty strings in a text.
func stays(text []byte) pairs {
	p := make(pairs, len(text)+1)
	for i := range p {
		p[i] = 1 << i
	}
	return p
}

// related are the pairs between which a string of a valid tree stands, as the chapter on sizes defines the language.
func related(n tree.Node, text []byte) pairs {
	all := make(pairs, len(text)+1)
	switch n.Kind {
	case tree.Bytes:
		for i, c := range text {
			if n.Set.Has(c) {
				all[i] = 1 << (i + 1)
			}
		}
	case tree.Cat:
		all = stays(text)
		for _, k := range n.Kids {
			all = all.then(related(k, text))
		}
	case tree.Alt:
		for _, k := range n.Kids {
			all = all.or(related(k, text))
		}
	case tree.Rep:
		most := n.Max
		if most == -1 {
			// Beyond Min, a time at which the empty string stands changes nothing, and each other one needs a byte.
			most = n.Min + len(text)
		}
		so, kid := stays(text), related(n.Kids[0], text)
		for times := range most + 1 {
			if times >= n.Min {
				all = all.or(so)
			}
			so = so.then(kid)
		}
	}
	return all
}

// model is what the calls must return for a tree and a text, told from the pairs. It is nil if nothing is in the language.
func model(n tree.Node, text []byte) pairs {
	if !may(n) {
		return make(pairs, len(text)+1)
	}
	return related(n, text)
}

// ends are the ends from an index.
func (p pairs) ends(from int) []int {
	var all []int
	if from >= 0 && from < len(p) {
		for to := range p {
			if to >= from && p.has(from, to) {
				all = append(all, to)
			}
		}
	}
	return all
}

// longest is the greatest length from an index.
func (p pairs) longest(from, most int) int {
	if from >= 0 && from < len(p) {
		for length := len(p) - 1 - from; length > 0; length-- {
			if length <= most && p.has(from, from+length) {
				return length
			}
		}
	}
	return 0
}

// best is the greatest length of one of several, and the first one of it.
func best(list []pairs, from, most int) (int, int) {
	for length := most; length > 0; length-- {
		for k, p := range list {
			if p.longest(from, length) == length {
				return length, k
			}
		}
	}
	return 0, -1
}

// apart is a copy of a tree, its spare capacity included.
func apart(n tree.Node) tree.Node {
	if n.Kids == nil {
		return n
	}
	all := slices.Clone(n.Kids[:cap(n.Kids)])
	for k := range all {
		all[k] = apart(all[k])
	}
	n.Kids = all[:len(n.Kids):len(all)]
	return n
}

// whole is a tree with its spare capacity as kids, so that it can be compared with another.
func whole(n tree.Node) tree.Node {
	n.Kids = slices.Clone(n.Kids[:cap(n.Kids)])
	for k := range n.Kids {
		n.Kids[k] = whole(n.Kids[k])
	}
	return n
}

// unchanged makes what checks that a list of trees and a text are what they were.
func unchanged(t *testing.T, list []tree.Node, text []byte) func() {
	t.Helper()
	trees := apart(cat(list...))
	bytes := slices.Clone(text[:cap(text)])
	return func() {
		t.Helper()
		if !slices.Equal(text[:cap(text)], bytes) {
			t.Fatalf("the calls changed the text %q to %q", bytes, text[:cap(text)])
		}
		if !reflect.DeepEqual(whole(cat(list...)), whole(trees)) {
			t.Fatalf("the calls changed %v to %v", trees, list)
		}
	}
}

// checkEnds checks Is and Ends, from each index, for a tree and a text of at most 63 bytes.
func checkEnds(t *testing.T, n tree.Node, text []byte) {
	t.Helper()
	p := model(n, text)
	if got, want := Is(n, text), p.has(0, len(text)); got != want {
		t.Fatalf("Is(%v, %q) is %v", shown(n), text, got)
	}
	for from := -1; from <= len(text)+1; from++ {
		if got, want := Ends(n, text, from), p.ends(from); !slices.Equal(got, want) {
			t.Fatalf("Ends(%v, %q, %d) is %v, want %v", shown(n), text, from, got, want)
		}
	}
}

// check checks all calls for a tree and a text of at most 63 bytes, with all indices and lengths.
func check(t *testing.T, n tree.Node, text []byte) {
	t.Helper()
	checkEnds(t, n, text)
	p := model(n, text)
	for from := -1; from <= len(text)+1; from++ {
		for most := -1; most <= len(text)+1; most++ {
			if got, want := Longest(n, text, from, most), p.longest(from, most); got != want {
				t.Fatalf("Longest(%v, %q, %d, %d) is %d, want %d", shown(n), text, from, most, got, want)
			}
		}
	}
	checkList(t, []tree.Node{n}, text)
}

// checkList checks Least and Best, with all indices and lengths, for a list of trees and a text of at most 63 bytes.
func checkList(t *testing.T, list []tree.Node, text []byte) {
	t.Helper()
	done := unchanged(t, list, text)
	var all []pairs
	var texts []any
	for _, n := range list {
		all, texts = append(all, model(n, text)), append(texts, shown(n))
	}
	least := slices.IndexFunc(all, func(p pairs) bool { return p.has(0, len(text)) })
	if got := Least(list, text); got != least {
		t.Fatalf("Least(%v, %q) is %d, want %d", texts, text, got, least)
	}
	for from := -1; from <= len(text)+1; from++ {
		for most := -1; most <= len(text)+1; most++ {
			length, k := best(all, from, most)
			if l, m := Best(list, text, from, most); l != length || m != k {
				t.Fatalf("Best(%v, %q, %d, %d) is %d and %d, want %d and %d", texts, text, from, most, l, m, length, k)
			}
		}
	}
	done()
}

// pattern is what package regexp reads as the language of a valid tree whose bytes are code points.
func pattern(n tree.Node) string {
	var all []string
	for _, k := range n.Kids {
		all = append(all, pattern(k))
	}
	switch n.Kind {
	case tree.Bytes:
		class := ""
		for _, s := range n.Set.Spans() {
			class += fmt.Sprintf(`\x{%x}-\x{%x}`, s.Lo, s.Hi)
		}
		if class != "" {
			return "[" + class + "]"
		}
	case tree.Cat:
		return "(?:" + strings.Join(all, "") + ")"
	case tree.Alt:
		return "(?:" + strings.Join(all, "|") + ")"
	case tree.Rep:
		if n.Max == -1 {
			return fmt.Sprintf("(?:%s){%d,}", all[0], n.Min)
		}
		return fmt.Sprintf("(?:%s){%d,%d}", all[0], n.Min, n.Max)
	}
	return `[^\x00-\x{10ffff}]`
}

// checkLong checks Is and Longest against package regexp, for a valid tree that it can read and a text of bytes below 128. It tells what the greatest length was, and -1 if it could not.
func checkLong(t *testing.T, n tree.Node, text []byte, from, most int) int {
	t.Helper()
	re, err := regexp.Compile("^(?:" + pattern(n) + ")")
	all, err2 := regexp.Compile("^(?:" + pattern(n) + `)\z`)
	if err != nil || err2 != nil || !may(n) {
		return -1
	}
	re.Longest()
	rest := text[from:]
	if want := all.Match(rest); Is(n, rest) != want {
		t.Fatalf("Is(%v, %q) is %v", shown(n), rest, !want)
	}
	want := 0
	if at := re.FindIndex(rest[:min(most, len(rest))]); at != nil {
		want = at[1]
	}
	if got := Longest(n, text, from, most); got != want {
		t.Fatalf("Longest(%v, %q, %d, %d) is %d, want %d", shown(n), text, from, most, got, want)
	}
	return want
}

// feed is a text of so many bytes, the same ones again and again.
func feed(length int, of string) []byte {
	return []byte(strings.Repeat(of, length/len(of)+1)[:length])
}

// to are the numbers from one to another one.
func to(lo, hi int) []int {
	var all []int
	for k := lo; k <= hi; k++ {
		all = append(all, k)
	}
	return all
}

// nothing checks that nothing is in the language of a tree, as all calls tell for a text.
func nothing(t *testing.T, n tree.Node, text []byte) {
	t.Helper()
	if Is(n, text) || Least([]tree.Node{n}, text) != api.None {
		t.Fatalf("Is or Least of %v has %q", shown(n), text)
	}
	for _, from := range []int{0, 1, len(text) - 1, len(text), len(text) + 1} {
		if got := Ends(n, text, from); len(got) > 0 {
			t.Fatalf("Ends(%v, %q, %d) is %v", shown(n), text, from, got)
		}
		for _, most := range []int{0, 1, 2, len(text), len(text) + 1} {
			if got := Longest(n, text, from, most); got != 0 {
				t.Fatalf("Longest(%v, %q, %d, %d) is %d", shown(n), text, from, most, got)
			}
			if length, k := Best([]tree.Node{n}, text, from, most); length != 0 || k != api.None {
				t.Fatalf("Best(%v, %q, %d, %d) is %d and %d", shown(n), text, from, most, length, k)
			}
		}
	}
}
