package names

import (
	"errors"
	"reflect"
	"slices"
	"strconv"
	"strings"
	"testing"

	"doffer/api"
	"doffer/tree"
)

// made is a book, and what it must hold. Each text is a name, =, and what it stands for.
func made(t *testing.T, texts ...string) (*Book, model) {
	t.Helper()
	b := New()
	var m model
	for _, s := range texts {
		name, text, _ := strings.Cut(s, "=")
		n := parse(t, text)
		if err := b.Add(name, n); err != nil {
			t.Fatalf("Add(%q, %q): %v", name, text, err)
		}
		m, _ = m.add(name, n)
	}
	checkHeld(t, b, m)
	return b, m
}

func TestChapterExample(t *testing.T) {
	b, m := made(t, "a={b}", "b={a}")
	n, err := b.Spread(parse(t, "{a}"))
	if !errors.Is(err, api.ErrLoop) || !reflect.DeepEqual(n, tree.Node{}) {
		t.Errorf("Spread is %v and %v", n, err)
	}
	checkTree(t, b, m, parse(t, "{a}"))
}

func TestAnEmptyBook(t *testing.T) {
	for _, b := range []*Book{New(), New().Copy(), {}, (&Book{}).Copy()} {
		if got := b.All(); len(got) > 0 {
			t.Errorf("All is %q", got)
		}
		for _, s := range []string{"", "a", "A", "abcdefghijklm", "digit"} {
			if n, ok := b.Get(s); ok || !reflect.DeepEqual(n, tree.Node{}) {
				t.Errorf("Get(%q) is %v and %v", s, n, ok)
			}
		}
		for _, s := range []string{"", "a", "a|b*", "{a}", "x{a}", "({b}|{a}{b})*", "a{3}"} {
			n := parse(t, s)
			err := checkTree(t, b, nil, n)
			if want := len(tree.Names(n)) > 0; errors.Is(err, api.ErrNone) != want {
				t.Errorf("Spread(%q) is %v", s, err)
			}
		}
		m := checkAdd(t, b, nil, "a", parse(t, "x"))
		checkHeld(t, b, m, "b")
		checkTree(t, b, m, parse(t, "{a}{a}"))
	}
}

func TestSpread(t *testing.T) {
	for _, w := range []struct {
		book, tree, want string
	}{
		{"digit=[0-9]", "{digit}+", "[0-9]+"},
		{"digit=[0-9]", "{digit}", "[0-9]"},
		{"digit=[0-9]", "a*", "a*"},
		{"digit=[0-9]", "", "()"},
		{"digit=[0-9]", "{digit}{digit}", "[0-9][0-9]"},
		{"digit=[0-9]", `{digit}+(\.{digit}*)?`, `[0-9]+(\.[0-9]*)?`},
		{"a=xy", "{a}", "xy"},
		{"a=xy", "({a})", "xy"},
		{"a=xy", "{a}z", "(xy)z"},
		{"a=xy", "z{a}", "z(xy)"},
		{"a=xy", "{a}{a}", "(xy)(xy)"},
		{"a=xy", "{a}|z", "xy|z"},
		{"a=xy", "{a}*", "(xy)*"},
		{"a=xy", "{a}{2,3}", "(xy){2,3}"},
		{"a=x|y", "{a}z", "(x|y)z"},
		{"a=x|y", "{a}|z", "(x|y)|z"},
		{"a=x|y", "z|{a}|{a}", "z|(x|y)|(x|y)"},
		{"a=x*", "{a}*", "(x*)*"},
		{"a=x*", "{a}{a}?", "x*(x*)?"},
		{"a=()", "{a}", "()"},
		{"a=()", "x{a}y", "x(())y"},
		{`a=[^\x00-\xff]`, "{a}?", `[^\x00-\xff]?`},
		{"a={b}; b=x", "{a}", "x"},
		{"b=x; a={b}", "{a}", "x"},
		{"a={b}{c}; b={c}|x; c=yz", "{a}", "(yz|x)(yz)"},
		{"a={b}{c}; b={c}|x; c=yz", "{c}{b}{a}", "(yz)(yz|x)((yz|x)(yz))"},
		{"a={b}; b={c}; c={d}; d={e}; e=x+", "{a}|{c}|{e}", "x+|x+|x+"},
		{"a={b}?; b={c}+; c={d}*; d=x", "{a}", "((x*)+)?"},
		{"a=x; b={nope}", "{a}", "x"},
		{"a=x; b={b}", "{a}", "x"},
		{"a=x; b={c}; c={b}", "({a}|{a}){3}", "(x|x){3}"},
		{"x=y; y=x", "x{y}y{x}", "xxyy"},
		{"a0=0; a1={a0}{a0}; a2={a1}{a1}; a3={a2}{a2}", "{a3}", "((00)(00))((00)(00))"},
		{"a=(((x|{b})*|{b}){2}|())+; b=y", "({a}|{b})?", "((((x|y)*|y){2}|())+|y)?"},
	} {
		b, m := made(t, strings.Split(w.book, "; ")...)
		n := parse(t, w.tree)
		got, err := b.Spread(n)
		if err != nil || tree.Text(got) != w.want {
			t.Errorf("Spread(%q) with %q is %v and %v, want %q", w.tree, w.book, shown(got), err, w.want)
		}
		checkTree(t, b, m, n)
		checkHeld(t, b, m, "nope")
	}
}

func TestErrorsOfSpread(t *testing.T) {
	for _, w := range []struct {
		book, tree string
		want       error
	}{
		{"a=x", "{b}", api.ErrNone},
		{"a=x", "x{b}", api.ErrNone},
		{"a=x", "{a}{b}", api.ErrNone},
		{"a=x", "({a}|({b}{a})*)?", api.ErrNone},
		{"a={b}", "{a}", api.ErrNone},
		{"a=x{b}", "{a}", api.ErrNone},
		{"a={b}; b=y{c}z", "{a}", api.ErrNone},
		{"a={a}", "{a}", api.ErrLoop},
		{"a={a}", "x{a}", api.ErrLoop},
		{"a=x{a}", "{a}", api.ErrLoop},
		{"a={a}*", "{a}", api.ErrLoop},
		{"a={a}{a}", "{a}", api.ErrLoop},
		{"a=x|({a}y)+", "{a}", api.ErrLoop},
		{"a={b}; b={a}", "{a}", api.ErrLoop},
		{"a={b}; b={a}", "{b}", api.ErrLoop},
		{"a={b}; b={a}; c={a}", "{c}", api.ErrLoop},
		{"a={b}; b={a}; c=x{b}", "y{c}", api.ErrLoop},
		{"a={b}; b={c}; c={d}; d={b}", "{a}", api.ErrLoop},
		{"a={b}; b={c}; c={d}; d={b}", "{d}", api.ErrLoop},
		{"a={b}; b={c}; c={d}; d={d}", "{a}", api.ErrLoop},
		{"a=x{b}; b=y{c}; c=z{a}", "({b}|x)*", api.ErrLoop},
		{"a={b}{b}; b=x|{c}; c={a}?", "{c}", api.ErrLoop},
		// What comes first tells.
		{"a={a}", "{a}{b}", api.ErrLoop},
		{"a={a}", "{b}{a}", api.ErrNone},
		{"a={b}{a}", "{a}", api.ErrNone},
		{"a={a}{b}", "{a}", api.ErrLoop},
		{"a={c}{b}; c=x", "{a}", api.ErrNone},
		{"a={c}{d}; c=x{a}", "{a}", api.ErrLoop},
		{"a={d}{c}; c=x{a}", "{a}", api.ErrNone},
		{"a=({x}{a}|{b}){2}; x=y", "{a}", api.ErrLoop},
		{"a=({x}{b}|{a}){2}; x=y", "{a}", api.ErrNone},
		// A name is in a loop only within what it stands for.
		{"a=x", "{a}({a}({a}{a})*)*{b}", api.ErrNone},
		{"a={c}; b={a}{c}{a}; c=x", "{b}{c}{a}{b}({a}{d})", api.ErrNone},
	} {
		b, m := made(t, strings.Split(w.book, "; ")...)
		for range 2 {
			if err := checkTree(t, b, m, parse(t, w.tree)); !errors.Is(err, w.want) {
				t.Errorf("Spread(%q) with %q is the error %v, want %v", w.tree, w.book, err, w.want)
			}
		}
		checkHeld(t, b, m, "b", "c", "d", "x")
		// After an error, what was being expanded isn't any more.
		for _, s := range m.all() {
			checkTree(t, b, m, name(s))
		}
	}
}

func TestThatANameIsAddedWhenItIsNeeded(t *testing.T) {
	b, n := New(), parse(t, "{a}x{b}")
	var m model
	for _, w := range []struct {
		name, text string
		err        error
		spread     error
		uses       string
	}{
		{"c", "z", nil, api.ErrNone, "a b"},
		{"b", "{c}", nil, api.ErrNone, "a b c"},
		{"a", "{d}{d}", nil, api.ErrNone, "a b d c"},
		{"a", "z", api.ErrDup, api.ErrNone, "a b d c"},
		{"d", "{c}{b}", nil, nil, "a b d c"},
		{"e", "{a}{e}", nil, nil, "a b d c"},
	} {
		next := checkAdd(t, b, m, w.name, parse(t, w.text))
		if (len(next) == len(m)) != (w.err != nil) {
			t.Errorf("Add(%q, %q) of the model", w.name, w.text)
		}
		m = next
		checkHeld(t, b, m, "a", "b", "c", "d", "e")
		if err := checkTree(t, b, m, n); !errors.Is(err, w.spread) {
			t.Errorf("after %q Spread is %v, want %v", w.name, err, w.spread)
		}
		if got := strings.Join(b.Uses(n), " "); got != w.uses {
			t.Errorf("after %q Uses is %q, want %q", w.name, got, w.uses)
		}
	}
	if got, _ := b.Spread(n); tree.Text(got) != "((zz)(zz))xz" {
		t.Errorf("Spread is %v", shown(got))
	}
}

func TestUses(t *testing.T) {
	for _, w := range []struct {
		book, tree, want string
	}{
		{"a=x", "", ""},
		{"a=x", "x|y*", ""},
		{"a=x", "{a}", "a"},
		{"a=x", "{b}", "b"},
		{"a=x", "{b}{a}", "b a"},
		{"a=x", "{a}{b}{a}", "a b"},
		{"a=x", "(x{c}|(y{a}z)*)+{b}", "c a b"},
		{"a={a}", "{a}", "a"},
		{"a={b}; b={a}", "{a}", "a b"},
		{"a={b}; b={a}", "{b}", "b a"},
		{"a={b}", "{a}", "a b"},
		{"a={b}; b={c}; c={d}; d={e}", "{a}", "a b c d e"},
		{"a={b}; b={c}; c={d}; d={e}", "{d}", "d e"},
		{"d={e}; c={d}; b={c}; a={b}", "{a}", "a b c d e"},
		// The names of the tree come first, then those of what the first one stands for, and those of the second one.
		{"a={c}; b={d}; c=x; d=x", "{a}{b}", "a b c d"},
		{"a={c}; b={d}; c=x; d=x", "{b}{a}", "b a d c"},
		{"a={c}; b={d}; c={e}; d={f}; e=x; f=x", "{a}{b}", "a b c d e f"},
		{"a={c}{d}; b={e}{f}; c={g}", "{a}{b}", "a b c d e f g"},
		{"a={c}; b={d}; c={e}{g}; d={f}; e={h}; f={i}", "{a}{b}", "a b c d e g f h i"},
		{"a={b}{c}; b={d}; c={e}; d={c}{f}", "{a}", "a b c d e f"},
		// What was found before isn't found once more.
		{"a={b}{a}{c}; b={c}{a}{d}", "{a}{b}{a}", "a b c d"},
		{"a={c}{b}; b={a}; c={b}{a}", "{a}{b}", "a b c"},
		{"a=({b}|{c})*; b=({c}|{b})?{d}; c=x({a}|{e})", "{c}|{b}", "c b a e d"},
		{"a={x}{y}; b={y}{z}{x}; z={w}; y={v}", "{a}{b}", "a b x y z v w"},
		// Names that aren't there are included, and what is there otherwise is not.
		{"a={n}x{m}; b={o}", "{m}{a}{l}", "m a l n"},
		{"z=x", "{n}{m}", "n m"},
	} {
		b, m := made(t, strings.Split(w.book, "; ")...)
		n := parse(t, w.tree)
		got := b.Uses(n)
		if strings.Join(got, " ") != w.want {
			t.Errorf("Uses(%q) with %q is %q, want %q", w.tree, w.book, got, w.want)
		}
		for k := range got {
			got[k] = "spoilt"
		}
		_ = append(got, "spoilt")
		checkTree(t, b, m, n)
		checkHeld(t, b, m)
	}
}

func TestAdd(t *testing.T) {
	b, full := New(), New()
	var m, fullModel model
	for k := range 32 {
		s := "n" + string([]byte{'a' + byte(k/26), 'a' + byte(k%26)})
		fullModel = checkAdd(t, full, fullModel, s, one(byte(k)))
	}
	m = checkAdd(t, b, m, "naa", one('0'))
	for _, w := range []struct {
		name        string
		tree        tree.Node
		roomy, full error // of a book that has room, and of one that has not
	}{
		{"", one('a'), api.ErrName, api.ErrName},
		{"", tree.Node{}, api.ErrName, api.ErrName},
		{"NAA", tree.Node{}, api.ErrName, api.ErrName},
		{"n_a", one('a'), api.ErrName, api.ErrName},
		{"naa", tree.Node{}, api.ErrForm, api.ErrForm},
		{"naa", alt(one('a')), api.ErrForm, api.ErrForm},
		{"other", alt(one('a')), api.ErrForm, api.ErrForm},
		{"naa", one('a'), api.ErrDup, api.ErrDup},
		{"naa", one('0'), api.ErrDup, api.ErrDup},
		{"naa", one(0), api.ErrDup, api.ErrDup},
		{"naa", name("naa"), api.ErrDup, api.ErrDup},
		{"other", one('a'), nil, api.ErrFull},
		{"other", one('a'), api.ErrDup, api.ErrFull},
		{"other", one('b'), api.ErrDup, api.ErrFull},
		{"self", name("self"), nil, api.ErrFull},
		{"absent", cat(name("nope"), name("naa")), nil, api.ErrFull},
	} {
		for _, x := range []struct {
			b    *Book
			m    *model
			want error
		}{{b, &m, w.roomy}, {full, &fullModel, w.full}} {
			next, err := x.m.add(w.name, w.tree)
			if !errors.Is(err, x.want) {
				t.Errorf("the model's Add(%q, %v) is %v, want %v", w.name, shown(w.tree), err, x.want)
			}
			*x.m = checkAdd(t, x.b, *x.m, w.name, w.tree)
			if len(next) != len(*x.m) {
				t.Errorf("Add(%q, %v) is not one name more", w.name, shown(w.tree))
			}
			checkHeld(t, x.b, *x.m, w.name)
		}
	}
}

func TestTheOrderOfNames(t *testing.T) {
	for _, order := range []string{"a b c d", "d c b a", "b d a c", "z a y b x c w d", "a1 a0 a", "a a0 a1"} {
		b := New()
		var m model
		for k, s := range strings.Fields(order) {
			m = checkAdd(t, b, m, s, cat(copiesOf(k, name("x"))...))
			// Neither what is refused nor what only asks changes the order.
			checkAdd(t, b, m, s, one('a'))
			checkTree(t, b, m, name(s))
			checkHeld(t, b, m, "q")
		}
		if got := b.All(); !slices.Equal(got, strings.Fields(order)) {
			t.Errorf("All is %q, want %q", got, order)
		}
	}
}

func TestCopy(t *testing.T) {
	b, m := made(t, "a={b}x", "b=y*")
	c := b.Copy()
	n := m
	checkHeld(t, c, n)
	// Each goes on by itself, and takes from the other neither a name nor the room for it.
	m = checkAdd(t, b, m, "c", parse(t, "{a}"))
	n = checkAdd(t, c, n, "d", parse(t, "{b}z"))
	d, o := c.Copy(), n
	n = checkAdd(t, c, n, "c", parse(t, "[0-9]"))
	o = checkAdd(t, d, o, "e", parse(t, "{c}{d}"))
	m = checkAdd(t, b, m, "e", parse(t, "{c}{c}"))
	for k := range 30 {
		s := "k" + strconv.Itoa(k)
		o = checkAdd(t, d, o, s, one('k'))
		if k%2 == 0 {
			n = checkAdd(t, c, n, s, one('j'))
		}
	}
	for _, w := range []struct {
		b *Book
		m model
	}{{b, m}, {c, n}, {d, o}, {b.Copy(), m}, {c.Copy(), n}, {d.Copy().Copy(), o}} {
		checkHeld(t, w.b, w.m, "a", "b", "c", "d", "e", "k0", "k1", "k27", "k28")
		for _, s := range []string{"{a}", "{c}", "{d}{e}", "{k0}{k1}", "x"} {
			checkTree(t, w.b, w.m, parse(t, s))
		}
	}
	if len(m) != 4 || len(n) != 4+15 || len(o) != 32 {
		t.Errorf("there are %d, %d and %d names", len(m), len(n), len(o))
	}
}

func TestThatATreeIsTheCallers(t *testing.T) {
	text := "(x|{b})*[0-9]{2,3}"
	n := parse(t, text)
	b := New()
	m := checkAdd(t, b, nil, "a", n)
	m = checkAdd(t, b, m, "b", parse(t, "yz"))
	spoil(&n)
	checkHeld(t, b, m)
	c := b.Copy()
	for _, x := range []*Book{b, c, b} {
		first, _ := x.Get("a")
		second, _ := x.Get("a")
		third, _ := c.Get("a")
		disjoint(t, n, first, second, third)
		spoil(&first)
		if tree.Text(second) != text {
			t.Errorf("Get is %v", shown(second))
		}
		spoil(&second)
		spoil(&third)
		all := x.All()
		clear(all[:cap(all)])
		_ = append(all, "c")
		checkHeld(t, b, m, "", "c")
		checkHeld(t, c, m, "", "c")

		arg := parse(t, "{a}({a}|{b}){b}x")
		full, err := x.Spread(arg)
		other, _ := x.Spread(arg)
		if err != nil {
			t.Fatal(err)
		}
		disjoint(t, arg, full, other)
		spoil(&full)
		if got := tree.Text(other); got != "((x|yz)*[0-9]{2,3})((x|yz)*[0-9]{2,3}|yz)(yz)x" {
			t.Errorf("Spread is %q", got)
		}
		spoil(&other)
		checkTree(t, x, m, arg)
		checkHeld(t, b, m)
		checkHeld(t, c, m)
	}
}

func TestThatNoCallChangesItsArguments(t *testing.T) {
	room := append(make([]tree.Node, 0, 8), one('a'), name("a"), rep(0, 1, name("b")), cat(one('c')), name("c"))
	b, m := made(t, "a=x{b}", "b=yz")
	for k := range len(room) + 1 {
		n := tree.Node{Kind: tree.Cat, Kids: room[:k]}
		done := unchanged(t, cat(room[:cap(room)]...))
		checkTree(t, b, m, n)
		m = checkAdd(t, b, m, "n"+string([]byte{'0' + byte(k)}), n)
		checkTree(t, b, m, n)
		done()
	}
	spoil(&room[0])
	spoil(&room[2])
	checkHeld(t, b, m)
	clear(room[:cap(room)])
	checkHeld(t, b, m)
}

func TestKidsThatAreNilAndKidsThatAreNone(t *testing.T) {
	none, some := tree.Node{Kind: tree.Cat}, tree.Node{Kind: tree.Cat, Kids: []tree.Node{}}
	spare := tree.Node{Kind: tree.Cat, Kids: make([]tree.Node, 0, 4)}
	for _, n := range []tree.Node{none, some, spare} {
		b := New()
		m := checkAdd(t, b, nil, "a", n)
		for _, x := range []tree.Node{n, cat(n, n), alt(n, name("a")), rep(0, -1, n), name("a"), {Kind: tree.Name, Text: "a", Kids: []tree.Node{}}} {
			if err := checkTree(t, b, m, x); err != nil {
				t.Errorf("Spread(%v): %v", x, err)
			}
		}
		checkHeld(t, b, m)
	}
	for _, n := range []tree.Node{{Kind: tree.Alt}, {Kind: tree.Alt, Kids: []tree.Node{}}, {Kind: tree.Rep, Max: -1}, {Kind: tree.Rep, Max: -1, Kids: []tree.Node{}}} {
		b, m := made(t, "a=x")
		if err := checkTree(t, b, m, n); !errors.Is(err, api.ErrForm) {
			t.Errorf("Spread(%v) is %v", n, err)
		}
		checkAdd(t, b, m, "b", n)
		checkHeld(t, b, m, "b")
	}
}

// smalls are small trees, with names and without.
func smalls() []tree.Node {
	leaves := []tree.Node{one('x'), cat(), name("a"), name("b"), name("c")}
	all := slices.Clone(leaves)
	for _, n := range leaves {
		all = append(all, cat(n), rep(0, -1, n))
		for _, m := range leaves {
			all = append(all, cat(n, m), alt(n, m))
		}
	}
	return all
}

func TestEverySmallBook(t *testing.T) {
	all := smalls()
	some := []tree.Node{one('x'), name("a"), name("b"), name("c"), cat(name("a"), name("b")), alt(name("b"), name("c")), cat(one('y'), rep(1, 1, name("c")))}
	counts := map[error]int{}
	for _, a := range all {
		for _, c := range some {
			b := New()
			m := checkAdd(t, b, nil, "a", a)
			m = checkAdd(t, b, m, "b", c)
			for _, n := range all {
				counts[checkTree(t, b, m, n)]++
			}
			for _, d := range some {
				with := b.Copy()
				m := checkAdd(t, with, m, "c", d)
				for _, n := range some {
					counts[checkTree(t, with, m, n)]++
				}
				checkHeld(t, with, m, "d")
			}
			checkHeld(t, b, m, "c")
		}
	}
	if counts[nil] < 5000 || counts[api.ErrNone] < 5000 || counts[api.ErrLoop] < 5000 || len(counts) != 3 {
		t.Errorf("there were %v", counts)
	}
}

// draws are numbers that look as if they were drawn, always the same ones.
type draws uint32

func (d *draws) below(n int) int {
	*d = *d*1664525 + 1013904223
	return int(uint64(*d) * uint64(n) >> 32)
}

// name is one of so many names.
func (d *draws) name(many int) string {
	s := "n" + string([]byte{'a' + byte(d.below(many))})
	return s[d.below(2):]
}

// tree is a tree with names, of at most so many levels.
func (d *draws) tree(levels, many int) tree.Node {
	kind := d.below(8)
	if levels == 1 || kind > 5 {
		switch d.below(3) {
		case 0:
			return one('a' + byte(d.below(5)))
		case 1:
			return cat()
		}
		return name(d.name(many))
	}
	var kids []tree.Node
	for range 2 + d.below(3) {
		kids = append(kids, d.tree(levels-1, many))
	}
	switch {
	case kind < 3:
		return cat(kids[d.below(3):]...)
	case kind < 5:
		return alt(kids...)
	}
	least := d.below(4)
	return rep(least, []int{-1, 1 + least, 40, max(least, 1)}[d.below(4)], kids[0])
}

// held is a book with what it must hold.
type held struct {
	*Book
	model
}

// step does something to one of several books, and checks it; it tells the error of Spread.
func (d *draws) step(t *testing.T, books []held, many int) error {
	t.Helper()
	h := &books[d.below(len(books))]
	switch d.below(10) {
	case 0, 1, 2, 3:
		n := d.tree(1+d.below(4), many)
		if d.below(10) == 0 {
			n = alt(n)
		}
		h.model = checkAdd(t, h.Book, h.model, d.name(many), n)
		spoil(&n)
	case 4, 5, 6:
		n := d.tree(1+d.below(5), many)
		if d.below(20) == 0 {
			n = rep(2, 1, n)
		}
		return checkTree(t, h.Book, h.model, n)
	case 7:
		n, _ := h.Get(d.name(many))
		spoil(&n)
		all := h.All()
		clear(all)
	case 8:
		checkHeld(t, h.Book, h.model, d.name(many), d.name(many))
	case 9:
		if d.below(4) == 0 {
			books[d.below(len(books))] = held{h.Copy(), h.model}
		}
	}
	return nil
}

func TestEveryOrderOfCalls(t *testing.T) {
	d := draws(11)
	counts := map[error]int{}
	for round := range 600 {
		books := []held{{New(), nil}, {New(), nil}, {New(), nil}}
		many := 2 + round%24
		for range 60 {
			counts[d.step(t, books, many)]++
		}
		for _, h := range books {
			checkHeld(t, h.Book, h.model, "na", "nb", "b", "nz")
		}
	}
	for _, err := range []error{nil, api.ErrForm, api.ErrNone, api.ErrLoop} {
		if counts[err] < 20 {
			t.Errorf("%v came %d times", err, counts[err])
		}
	}
}

// acyclic is a book in which each name stands for a tree with names that came before.
func (d *draws) acyclic(t *testing.T, count, levels int) (*Book, model) {
	t.Helper()
	b := New()
	m := checkAdd(t, b, nil, "n0", one('x'))
	for k := 1; k < count; k++ {
		n := d.tree(levels, 3)
		if k%3 > 0 {
			n = cat(n, name("later"))
		}
		before := m.all()
		m = checkAdd(t, b, m, "n"+string([]byte{'a' + byte(k/10), '0' + byte(k%10)}), renamed(n, func() string { return before[d.below(len(before))/2+len(before)/2] }))
	}
	return b, m
}

// renamed is a tree with other names.
func renamed(n tree.Node, to func() string) tree.Node {
	if n.Kind == tree.Name {
		return name(to())
	}
	for k := range n.Kids {
		n.Kids[k] = renamed(n.Kids[k], to)
	}
	return n
}

func TestBooksWithoutLoops(t *testing.T) {
	d := draws(5)
	counts := map[error]int{}
	for round := range 1500 {
		b, m := d.acyclic(t, 2+round%31, 1+round%5)
		all := m.all()
		for range 6 {
			n := renamed(d.tree(1+d.below(4), 3), func() string { return all[len(all)-1-d.below((len(all)+1)/2)] })
			counts[checkTree(t, b, m, n)]++
		}
		checkHeld(t, b, m)
	}
	if counts[nil] < 3000 || counts[api.ErrDepth] < 100 || counts[api.ErrLimit] < 100 || len(counts) != 3 {
		t.Errorf("there were %v", counts)
	}
}
