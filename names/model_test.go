package names

import (
	"errors"
	"reflect"
	"slices"
	"strings"
	"testing"

	"doffer/api"
	"doffer/regex"
	"doffer/sets"
	"doffer/tree"
)

func one(c byte) tree.Node            { return bytesOf(sets.One(c)) }
func bytesOf(s sets.Set) tree.Node    { return tree.Node{Kind: tree.Bytes, Set: s} }
func cat(kids ...tree.Node) tree.Node { return tree.Node{Kind: tree.Cat, Kids: kids} }
func alt(kids ...tree.Node) tree.Node { return tree.Node{Kind: tree.Alt, Kids: kids} }
func name(s string) tree.Node         { return tree.Node{Kind: tree.Name, Text: s} }
func rep(least, most int, kids ...tree.Node) tree.Node {
	return tree.Node{Kind: tree.Rep, Kids: kids, Min: least, Max: most}
}

// copiesOf is so many kids that are the same.
func copiesOf(count int, n tree.Node) []tree.Node { return slices.Repeat([]tree.Node{n}, count) }

// below is a node that is so many levels below others, which a function makes.
func below(n tree.Node, levels int, wrap func(tree.Node) tree.Node) tree.Node {
	for range levels {
		n = wrap(n)
	}
	return n
}

// in is a node within a Cat.
func in(n tree.Node) tree.Node { return cat(n) }

// parse is the tree of a text that can be parsed.
func parse(t *testing.T, s string) tree.Node {
	t.Helper()
	n, _, err := regex.Parse(s)
	if err != nil {
		t.Fatalf("Parse(%q): %v", s, err)
	}
	return n
}

// shown is the text of a tree, or all of it if it is invalid.
func shown(n tree.Node) any {
	if !tree.Right(n) {
		return n
	}
	return tree.Text(n)
}

// entry is a name and what it stands for.
type entry struct {
	name string
	tree tree.Node
}

// model is what a book must hold.
type model []entry

// find is what a name stands for, and whether it is there.
func (m model) find(name string) (tree.Node, bool) {
	for _, e := range m {
		if e.name == name {
			return e.tree, true
		}
	}
	return tree.Node{}, false
}

// add is the error of adding a name, and what the book holds then.
func (m model) add(name string, n tree.Node) (model, error) {
	_, there := m.find(name)
	switch {
	case !tree.IsName(name):
		return m, api.ErrName
	case !tree.Right(n):
		return m, api.ErrForm
	case there:
		return m, api.ErrDup
	case len(m) >= 32:
		return m, api.ErrFull
	}
	return append(slices.Clip(m), entry{name, apart(n)}), nil
}

// all is the names.
func (m model) all() []string {
	var all []string
	for _, e := range m {
		all = append(all, e.name)
	}
	return all
}

// text is the book as text.
func (m model) text() string {
	var all []string
	for _, e := range m {
		all = append(all, e.name+"="+tree.Text(e.tree))
	}
	return strings.Join(all, "; ")
}

// visit is a node that is to be visited.
type visit struct {
	node  tree.Node
	level int
	open  []string // the names that are being expanded
}

// spread is the expanded tree: first a list of its nodes in the order of the walk, each with how many kids it has, then the tree that is made from it.
func (m model) spread(n tree.Node) (tree.Node, error) {
	if !tree.Right(n) {
		return tree.Node{}, api.ErrForm
	}
	var list []tree.Node
	for stack := []visit{{n, 1, nil}}; len(stack) > 0; {
		v := stack[len(stack)-1]
		stack = stack[:len(stack)-1]
		if v.node.Kind == tree.Name {
			name := v.node.Text
			stands, ok := m.find(name)
			if !ok {
				return tree.Node{}, api.ErrNone
			}
			if slices.Contains(v.open, name) {
				return tree.Node{}, api.ErrLoop
			}
			stack = append(stack, visit{stands, v.level, append(slices.Clip(v.open), name)})
			continue
		}
		if v.level > 24 {
			return tree.Node{}, api.ErrDepth
		}
		if len(list) >= 600 {
			return tree.Node{}, api.ErrLimit
		}
		list = append(list, v.node)
		for _, kid := range slices.Backward(v.node.Kids) {
			stack = append(stack, visit{kid, v.level + 1, v.open})
		}
	}
	full, _ := built(list)
	return full, nil
}

// built is the tree whose nodes begin a list, and the rest of the list.
func built(list []tree.Node) (tree.Node, []tree.Node) {
	n, rest := list[0], list[1:]
	var kids []tree.Node
	for range n.Kids {
		var kid tree.Node
		kid, rest = built(rest)
		kids = append(kids, kid)
	}
	n.Kids = kids
	return n, rest
}

// namesIn is the names in a valid tree, each as often as it is there.
func namesIn(n tree.Node) []string {
	if n.Kind == tree.Name {
		return []string{n.Text}
	}
	var all []string
	for _, k := range n.Kids {
		all = append(all, namesIn(k)...)
	}
	return all
}

// uses is the names that a tree uses: round by round, in each round what those of the one before stand for.
func (m model) uses(n tree.Node) []string {
	if !tree.Right(n) {
		return nil
	}
	var all []string
	for round := []tree.Node{n}; len(round) > 0; {
		var next []tree.Node
		for _, n := range round {
			for _, s := range namesIn(n) {
				if !slices.Contains(all, s) {
					all = append(all, s)
					if stands, ok := m.find(s); ok {
						next = append(next, stands)
					}
				}
			}
		}
		round = next
	}
	return all
}

// apart is a copy of a tree, its spare capacity included.
func apart(n tree.Node) tree.Node {
	if n.Kids == nil {
		return n
	}
	all := slices.Clone(n.Kids[:cap(n.Kids)])
	for k := range all {
		all[k] = apart(all[k])
	}
	n.Kids = all[:len(n.Kids):len(all)]
	return n
}

// whole is a tree with its spare capacity as kids, so that it can be compared with another.
func whole(n tree.Node) tree.Node {
	n.Kids = slices.Clone(n.Kids[:cap(n.Kids)])
	for k := range n.Kids {
		n.Kids[k] = whole(n.Kids[k])
	}
	return n
}

// unchanged makes what checks that a tree is what it was.
func unchanged(t *testing.T, n tree.Node) func() {
	t.Helper()
	was := apart(n)
	return func() {
		t.Helper()
		if !reflect.DeepEqual(whole(n), whole(was)) {
			t.Fatalf("the calls changed %v to %v", was, n)
		}
	}
}

// places are where the kids of a tree are, its spare capacity included.
func places(n tree.Node) []*tree.Node {
	var all []*tree.Node
	for k := range n.Kids[:cap(n.Kids)] {
		kid := &n.Kids[:cap(n.Kids)][k]
		all = append(append(all, kid), places(*kid)...)
	}
	return all
}

// disjoint checks that no two of several trees, and no two parts of one that isn't the first, share memory.
func disjoint(t *testing.T, arg tree.Node, results ...tree.Node) {
	t.Helper()
	seen := map[*tree.Node]bool{}
	for _, p := range places(arg) {
		seen[p] = true
	}
	for _, n := range results {
		for _, p := range places(n) {
			if seen[p] {
				t.Fatalf("a result shares memory: %v", shown(n))
			}
			seen[p] = true
		}
	}
}

// spoil overwrites a tree with all that is below it.
func spoil(n *tree.Node) {
	for k := range n.Kids[:cap(n.Kids)] {
		spoil(&n.Kids[:cap(n.Kids)][k])
	}
	*n = tree.Node{Kind: -7, Text: "SPOILT", Min: -9}
}

// checkAdd adds a name to a book and checks the error; it returns what the book must hold then.
func checkAdd(t *testing.T, b *Book, m model, name string, n tree.Node) model {
	t.Helper()
	done := unchanged(t, n)
	next, want := m.add(name, n)
	if err := b.Add(name, n); !errors.Is(err, want) {
		t.Fatalf("Add(%q, %v) to %q is %v, want %v", name, shown(n), m.text(), err, want)
	}
	done()
	return next
}

// checkHeld checks that a book holds what it must, and none of other names.
func checkHeld(t *testing.T, b *Book, m model, others ...string) {
	t.Helper()
	if got := b.All(); !slices.Equal(got, m.all()) {
		t.Fatalf("All of %q is %q", m.text(), got)
	}
	for _, s := range append(others, m.all()...) {
		want, there := m.find(s)
		if got, ok := b.Get(s); ok != there || there && !tree.Same(got, want) || !there && !reflect.DeepEqual(got, tree.Node{}) {
			t.Fatalf("Get(%q) of %q is %v and %v", s, m.text(), shown(got), ok)
		}
	}
}

// checkTree checks Spread and Uses of a tree, and tells the error of Spread.
func checkTree(t *testing.T, b *Book, m model, n tree.Node) error {
	t.Helper()
	done := unchanged(t, n)
	if got, want := b.Uses(n), m.uses(n); !slices.Equal(got, want) {
		t.Fatalf("Uses(%v) with %q is %q, want %q", shown(n), m.text(), got, want)
	}
	want, wantErr := m.spread(n)
	got, err := b.Spread(n)
	if !errors.Is(err, wantErr) {
		t.Fatalf("Spread(%v) with %q is the error %v, want %v", shown(n), m.text(), err, wantErr)
	}
	done()
	if err != nil {
		if !reflect.DeepEqual(got, tree.Node{}) {
			t.Fatalf("Spread(%v) with %q is %v, with the error %v", shown(n), m.text(), got, err)
		}
		return err
	}
	if !tree.Same(got, want) {
		t.Fatalf("Spread(%v) with %q is %v, want %v", shown(n), m.text(), shown(got), shown(want))
	}
	checkExpanded(t, b, n, got)
	return nil
}

// checkExpanded checks what holds for every expanded tree, whatever it stands for.
func checkExpanded(t *testing.T, b *Book, n, full tree.Node) {
	t.Helper()
	if !tree.Right(full) || len(tree.Names(full)) > 0 {
		t.Fatalf("Spread(%v) is invalid, or has names: %v", shown(n), full)
	}
	again, err := b.Spread(full)
	if err != nil || !tree.Same(again, full) {
		t.Fatalf("Spread(%v), which is expanded, is %v and %v", shown(full), shown(again), err)
	}
	if got, err := New().Spread(full); err != nil || !tree.Same(got, full) {
		t.Fatalf("Spread(%v) with no names is %v and %v", shown(full), shown(got), err)
	}
	if got := b.Uses(full); len(got) > 0 {
		t.Fatalf("Uses(%v) is %q", shown(full), got)
	}
	disjoint(t, n, full, again)
}
