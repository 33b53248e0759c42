package sizes

import (
	"math"
	"reflect"
	"slices"
	"testing"

	"doffer/sets"
	"doffer/tree"
)

func one(c byte) tree.Node            { return bytesOf(sets.One(c)) }
func bytesOf(s sets.Set) tree.Node    { return tree.Node{Kind: tree.Bytes, Set: s} }
func cat(kids ...tree.Node) tree.Node { return tree.Node{Kind: tree.Cat, Kids: kids} }
func alt(kids ...tree.Node) tree.Node { return tree.Node{Kind: tree.Alt, Kids: kids} }
func name(s string) tree.Node         { return tree.Node{Kind: tree.Name, Text: s} }
func rep(least, most int, kids ...tree.Node) tree.Node {
	return tree.Node{Kind: tree.Rep, Kids: kids, Min: least, Max: most}
}

// told is what all calls return for a tree, but its weight.
type told struct {
	void, nullable        bool
	least, most           int
	first, last, alphabet sets.Set
}

// nothing is what the calls return for an empty language.
var nothing = told{void: true, least: -1, most: -1}

// calls is what the calls return for a tree.
func calls(n tree.Node) told {
	return told{Void(n), Nullable(n), Least(n), Most(n), First(n), Last(n), Alphabet(n)}
}

// shown is the text of a tree, or all of it if it is invalid.
func shown(n tree.Node) any {
	if !tree.Right(n) {
		return n
	}
	return tree.Text(n)
}

// list is the strings of a valid tree, each once, if what has no bound is repeated at most so many times more than it must.
func list(n tree.Node, more int) map[string]bool {
	all := map[string]bool{}
	switch n.Kind {
	case tree.Bytes:
		for _, c := range n.Set.List() {
			all[string([]byte{c})] = true
		}
	case tree.Cat:
		all[""] = true
		for _, k := range n.Kids {
			all = pairs(all, list(k, more))
		}
	case tree.Alt:
		for _, k := range n.Kids {
			for s := range list(k, more) {
				all[s] = true
			}
		}
	case tree.Rep:
		most := n.Max
		if most == -1 {
			most = n.Min + more
		}
		so, kid := map[string]bool{"": true}, list(n.Kids[0], more)
		for times := 0; times <= most; times++ {
			for s := range so {
				all[s] = all[s] || times >= n.Min
			}
			so = pairs(so, kid)
		}
		for s, is := range all {
			if !is {
				delete(all, s)
			}
		}
	}
	return all
}

// pairs is each string of the one with each of the other behind it.
func pairs(some, others map[string]bool) map[string]bool {
	all := map[string]bool{}
	for s := range some {
		for o := range others {
			all[s+o] = true
		}
	}
	return all
}

// listed is what must be told of a small tree, by all its strings.
func listed(n tree.Node) told {
	most := func(all map[string]bool) int {
		longest := -1
		for s := range all {
			longest = max(longest, len(s))
		}
		return longest
	}
	all := list(n, 1)
	w := told{void: len(all) == 0, nullable: all[""], least: most(all), most: most(all)}
	for s := range all {
		w.least = min(w.least, len(s))
		w.alphabet = w.alphabet.Or(sets.Of([]byte(s)))
		if s != "" {
			w.first = w.first.Or(sets.One(s[0]))
			w.last = w.last.Or(sets.One(s[len(s)-1]))
		}
	}
	// A small tree with a bound has no string of 8 bytes. What grows with its repetitions beyond that grows without end.
	if w.most = most(list(n, 8)); w.most < most(list(n, 9)) {
		w.most = Huge
	}
	return w
}

// graph is an automaton with free steps, numbered from its start.
type graph struct {
	states int
	steps  []step
}

// step is a step by one byte of a set; free is one by no byte.
type step struct {
	from, to int
	free     bool
	set      sets.Set
}

// size is how many bytes a step is.
func (s step) size() int {
	if s.free {
		return 0
	}
	return 1
}

// state is a state more, with a free step to it.
func (g *graph) state(from int) int {
	g.steps = append(g.steps, step{from: from, to: g.states, free: true})
	g.states++
	return g.states - 1
}

// add adds a tree's strings from a state on, and returns the state in which they end.
func (g *graph) add(n tree.Node, from int) int {
	end := g.state(from)
	switch n.Kind {
	case tree.Bytes:
		g.steps[len(g.steps)-1] = step{from: from, to: end, set: n.Set}
	case tree.Name:
		g.steps = g.steps[:len(g.steps)-1]
	case tree.Cat:
		for _, k := range n.Kids {
			end = g.add(k, end)
		}
	case tree.Alt:
		g.steps = g.steps[:len(g.steps)-1]
		for _, k := range n.Kids {
			g.steps = append(g.steps, step{from: g.add(k, from), to: end, free: true})
		}
	case tree.Rep:
		for range n.Min {
			end = g.add(n.Kids[0], end)
		}
		if n.Max == -1 {
			end = g.state(end)
			g.steps = append(g.steps, step{from: g.add(n.Kids[0], end), to: end, free: true})
			return g.state(end)
		}
		var skips []int
		for range n.Max - n.Min {
			skips = append(skips, end)
			end = g.add(n.Kids[0], end)
		}
		end = g.state(end)
		for _, s := range skips {
			g.steps = append(g.steps, step{from: s, to: end, free: true})
		}
	}
	return end
}

// reached is the states that a state leads to by some steps, or from which some steps lead to it.
func (g *graph) reached(from int, back bool, may func(step) bool) []bool {
	in := make([]bool, g.states)
	in[from] = true
	for grows := true; grows; {
		grows = false
		for _, s := range g.steps {
			if back {
				s.from, s.to = s.to, s.from
			}
			if in[s.from] && !in[s.to] && may(s) {
				in[s.to], grows = true, true
			}
		}
	}
	return in
}

// length is the least or the greatest length from the start to an end, and Huge if it grows without end; each step leads from the one to the other.
func (g *graph) length(end, sign int) int {
	far := make([]int, g.states)
	for k := range far {
		far[k] = math.MaxInt / 2
	}
	far[0] = 0
	for range g.states + 1 {
		grows := false
		for _, s := range g.steps {
			if to := far[s.from] + sign*s.size(); far[s.from] < math.MaxInt/4 && to < far[s.to] {
				far[s.to], grows = to, true
			}
		}
		if !grows {
			return min(sign*far[end], Huge)
		}
	}
	return Huge
}

// drawn is what must be told of a valid tree, by the steps of an automaton that lie between its start and its end.
func drawn(n tree.Node) told {
	g := graph{states: 1}
	end := g.add(n, 0)
	open := func(s step) bool { return s.free || !s.set.Empty() }
	free := func(s step) bool { return s.free }
	from, to := g.reached(0, false, open), g.reached(end, true, open)
	if !from[end] {
		return nothing
	}
	g.steps = slices.DeleteFunc(g.steps, func(s step) bool { return !open(s) || !from[s.from] || !to[s.to] })
	begin, ends := g.reached(0, false, free), g.reached(end, true, free)
	w := told{nullable: begin[end], least: g.length(end, 1), most: g.length(end, -1)}
	for _, s := range g.steps {
		w.alphabet = w.alphabet.Or(s.set)
		if begin[s.from] {
			w.first = w.first.Or(s.set)
		}
		if ends[s.to] {
			w.last = w.last.Or(s.set)
		}
	}
	return w
}

// measured is the lengths and the weight of a valid tree, as numbers that are exact up to 2^53 and never overflow.
func measured(n tree.Node) (least, most, weight float64) {
	weight = 1
	switch n.Kind {
	case tree.Bytes:
		if n.Set.Empty() {
			return -1, -1, weight
		}
		return 1, 1, weight
	case tree.Name:
		return -1, -1, weight
	case tree.Alt:
		least, most = -1, -1
	}
	for _, k := range n.Kids {
		l, m, w := measured(k)
		switch {
		case n.Kind == tree.Rep && n.Max == -1:
			weight += w * float64(n.Min+1)
		case n.Kind == tree.Rep:
			weight += w * float64(n.Max)
		default:
			weight += w
		}
		switch {
		case n.Kind == tree.Cat && (least < 0 || l < 0):
			least, most = -1, -1
		case n.Kind == tree.Cat:
			least, most = least+l, most+m
		case n.Kind == tree.Alt && least < 0:
			least, most = l, m
		case n.Kind == tree.Alt && l >= 0:
			least, most = min(least, l), max(most, m)
		case n.Kind == tree.Rep && l < 0 && n.Min > 0:
			least, most = -1, -1
		case n.Kind == tree.Rep && m > 0 && n.Max == -1:
			least, most = l*float64(n.Min), math.Inf(1)
		case n.Kind == tree.Rep && m > 0:
			least, most = l*float64(n.Min), m*float64(n.Max)
		}
	}
	return least, most, weight
}

// apart is a copy of a tree, its spare capacity included.
func apart(n tree.Node) tree.Node {
	if n.Kids == nil {
		return n
	}
	all := slices.Clone(n.Kids[:cap(n.Kids)])
	for k := range all {
		all[k] = apart(all[k])
	}
	n.Kids = all[:len(n.Kids):len(all)]
	return n
}

// whole is a tree with its spare capacity as kids, so that it can be compared with another.
func whole(n tree.Node) tree.Node {
	n.Kids = slices.Clone(n.Kids[:cap(n.Kids)])
	for k := range n.Kids {
		n.Kids[k] = whole(n.Kids[k])
	}
	return n
}

// check checks all calls for a tree, which must be finite: what they return if it is invalid, else its lengths and weight, what goes together, and that it is not changed.
func check(t *testing.T, n tree.Node) {
	t.Helper()
	was := apart(n)
	got, weight := calls(n), Weight(n)
	if !tree.Right(n) {
		if got != nothing || weight != 0 {
			t.Fatalf("%v is invalid, and it is told %v, its weight %d", was, got, weight)
		}
	} else if l, m, w := measured(n); got.least != int(min(l, Huge)) || got.most != int(min(m, Huge)) || weight != int(min(w, Huge)) {
		t.Fatalf("Least, Most and Weight of %v are %d, %d and %d, want %v, %v and %v", shown(n), got.least, got.most, weight, l, m, w)
	}
	if got.void != (got.least == -1) || got.nullable != (got.least == 0) || got.void && got != nothing {
		t.Fatalf("of %v it is told %v", shown(n), got)
	}
	if bytes := got.most > 0; got.first.Empty() == bytes || got.last.Empty() == bytes || !got.first.Or(got.last).Minus(got.alphabet).Empty() {
		t.Fatalf("First, Last and Alphabet of %v are %v, %v and %v", shown(n), got.first.List(), got.last.List(), got.alphabet.List())
	}
	if !reflect.DeepEqual(whole(n), whole(was)) {
		t.Fatalf("the calls changed %v to %v", was, n)
	}
}

// checkAll checks all calls for a valid tree against what a model tells.
func checkAll(t *testing.T, n tree.Node, model func(tree.Node) told) {
	t.Helper()
	check(t, n)
	if got, want := calls(n), model(n); got != want {
		t.Fatalf("of %v it is told %v, want %v", shown(n), got, want)
	}
}
