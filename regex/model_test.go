package regex

import (
	"errors"
	"reflect"
	"slices"
	"strconv"
	"strings"
	"testing"

	"doffer/api"
	"doffer/brackets"
	"doffer/sets"
	"doffer/spell"
	"doffer/tree"
)

func one(c byte) tree.Node            { return oneOfSet(sets.One(c)) }
func oneOfSet(s sets.Set) tree.Node   { return tree.Node{Kind: tree.Bytes, Set: s} }
func cat(kids ...tree.Node) tree.Node { return tree.Node{Kind: tree.Cat, Kids: kids} }
func alt(kids ...tree.Node) tree.Node { return tree.Node{Kind: tree.Alt, Kids: kids} }
func name(s string) tree.Node         { return tree.Node{Kind: tree.Name, Text: s} }
func rep(least, most int, kids ...tree.Node) tree.Node {
	return tree.Node{Kind: tree.Rep, Kids: kids, Min: least, Max: most}
}

// fault is what a text can't be continued for, and where.
type fault struct {
	at  int
	err error
}

// model reads a text as the chapter words it, a call for each of its words. It panics with a fault.
type model struct {
	text string
	at   int
}

// next is what is left of the text.
func (m *model) next() string { return m.text[m.at:] }

func (m *model) begins(with string) bool { return strings.HasPrefix(m.next(), with) }

// digits is how many digits are next.
func (m *model) digits() int { return len(m.next()) - len(strings.TrimLeft(m.next(), "0123456789")) }

// must panics with what a lower layer tells, if it is an error.
func (m *model) must(next int, err error) {
	if err != nil {
		panic(fault{next, err})
	}
	m.at = next
}

func (m *model) expression() tree.Node {
	branches := []tree.Node{m.branch()}
	for m.begins("|") {
		m.at++
		branches = append(branches, m.branch())
	}
	if len(branches) > 1 {
		return alt(branches...)
	}
	return branches[0]
}

func (m *model) branch() tree.Node {
	var pieces []tree.Node
	for m.next() != "" && !m.begins("|") && !m.begins(")") {
		pieces = append(pieces, m.piece())
	}
	if len(pieces) == 1 {
		return pieces[0]
	}
	return cat(pieces...)
}

func (m *model) piece() tree.Node {
	n := m.atom()
	for {
		switch {
		case m.begins("*"):
			n = rep(0, -1, n)
		case m.begins("+"):
			n = rep(1, -1, n)
		case m.begins("?"):
			n = rep(0, 1, n)
		case m.begins("{"):
			m.at++
			if m.digits() == 0 {
				m.at--
				return n
			}
			least, most := m.bounds()
			n = rep(least, most, n)
		default:
			return n
		}
		m.at++
	}
}

// bounds reads what is between { and }, and stops at the }.
func (m *model) bounds() (least, most int) {
	last := m.at
	least = m.number()
	most = least
	if m.begins(",") {
		m.at++
		most, last = -1, m.at
		if m.digits() > 0 {
			most = m.number()
		}
	}
	if m.next() == "" {
		panic(fault{m.at, api.ErrShort})
	}
	if !m.begins("}") {
		panic(fault{m.at, api.ErrForm})
	}
	if most > -1 && (most < least || most < 1) {
		panic(fault{last, api.ErrRange})
	}
	return least, most
}

func (m *model) number() int {
	size := m.digits()
	n, err := strconv.Atoi(m.next()[:size])
	if err != nil || size > 2 || n > 40 {
		panic(fault{m.at, api.ErrRange})
	}
	m.at += size
	return n
}

func (m *model) atom() tree.Node {
	c := m.next()[0]
	switch c {
	case '(':
		m.at++
		n := m.expression()
		if m.next() == "" {
			panic(fault{m.at, api.ErrShort})
		}
		m.at++
		return n
	case '[':
		s, next, err := brackets.Read(m.text, m.at)
		m.must(next, err)
		return oneOfSet(s)
	case '.':
		m.at++
		return oneOfSet(sets.One(10).Not())
	case '{':
		m.at++
		s, _, closed := strings.Cut(m.next(), "}")
		if !closed {
			panic(fault{len(m.text), api.ErrShort})
		}
		letters := strings.TrimLeft(s, "abcdefghijklmnopqrstuvwxyz0123456789")
		if s == "" || letters != "" || s[0] < 'a' || len(s) > 12 {
			panic(fault{m.at, api.ErrName})
		}
		m.at += len(s) + 1
		return name(s)
	case '*', '+', '?', ']', '}', '/':
		panic(fault{m.at, api.ErrForm})
	}
	c, next, err := spell.Read(m.text, m.at)
	m.must(next, err)
	return one(c)
}

// walked is how deep the walk through a tree goes and how many nodes it visits, by a stack of what is still to be visited.
func walked(n tree.Node) (deepest, count int) {
	type visit struct {
		level int
		node  tree.Node
	}
	for stack := []visit{{1, n}}; len(stack) > 0 && count < 601; count++ {
		v := stack[len(stack)-1]
		stack, deepest = stack[:len(stack)-1], max(deepest, v.level)
		if v.level < 25 {
			// Of more kids than the walk has nodes left, the last ones are never visited.
			for _, kid := range slices.Backward(v.node.Kids[:min(601, len(v.node.Kids))]) {
				stack = append(stack, visit{v.level + 1, kid})
			}
		}
	}
	return deepest, count
}

// parsed is what Parse must return.
func parsed(s string) (n tree.Node, at int, err error) {
	defer func() {
		if f, ok := recover().(fault); ok {
			n, at, err = tree.Node{}, f.at, f.err
		}
	}()
	m := model{text: s}
	n = m.expression()
	if m.next() != "" {
		panic(fault{m.at, api.ErrForm}) // a ) that nothing opened
	}
	deepest, count := walked(n)
	if deepest > 24 {
		panic(fault{0, api.ErrDepth})
	}
	if count > 600 {
		panic(fault{0, api.ErrLimit})
	}
	return n, len(s), nil
}

// alike tells whether two trees are equal in all fields, kids that are nil and kids that are none alike.
func alike(a, b tree.Node) bool {
	if !slices.EqualFunc(a.Kids, b.Kids, alike) {
		return false
	}
	a.Kids, b.Kids = nil, nil
	return reflect.DeepEqual(a, b)
}

// shown is a text, shortened if it is long.
func shown(s string) string {
	if len(s) > 120 {
		return strconv.Quote(s[:60]) + " .. " + strconv.Quote(s[len(s)-60:]) + ", " + strconv.Itoa(len(s)) + " bytes"
	}
	return strconv.Quote(s)
}

// check checks what Parse returns for a text: what the model does; what is parsed is valid and plain, and its text is parsed as it.
func check(t *testing.T, s string) {
	t.Helper()
	want, place, fails := parsed(s)
	n, at, err := Parse(s)
	if !errors.Is(err, fails) || !errors.Is(fails, err) || at != place {
		t.Fatalf("Parse(%s) ends at %d with %v, want %d and %v", shown(s), at, err, place, fails)
	}
	if err != nil {
		if !reflect.DeepEqual(n, tree.Node{}) {
			t.Fatalf("Parse(%s) returns %v with an error", shown(s), n)
		}
		return
	}
	if !alike(n, want) {
		t.Fatalf("Parse(%s) = %v, want %v", shown(s), n, want)
	}
	if !tree.Right(n) || !Plain(n) || !tree.Same(Simple(n), n) {
		t.Fatalf("Parse(%s) = %v is not valid and plain", shown(s), n)
	}
	again(t, n)
}

// again checks that the text of a plain tree is parsed as that tree.
func again(t *testing.T, n tree.Node) {
	t.Helper()
	s := tree.Text(n)
	m, at, err := Parse(s)
	if err != nil || at != len(s) || !tree.Same(m, n) {
		t.Fatalf("%s, the text of %v, is parsed as %v, %d, %v", shown(s), n, m, at, err)
	}
}

// every calls each with all texts of so many pieces out of some.
func every(size int, pieces []string, each func(s string)) {
	if size == 0 {
		each("")
		return
	}
	for _, p := range pieces {
		every(size-1, pieces, func(s string) { each(p + s) })
	}
}

func split(s string) []string { return strings.Split(s, "") }

func TestEveryShortText(t *testing.T) {
	for _, w := range []struct {
		size   int
		pieces string
		begins []string
	}{
		{4, `a|*+?()[]{}.\/,0149-^xn`, []string{""}},
		{3, `a|*+?()[]{}.\/,0149-^xn`, []string{"a", "(", "b|", "(a)", "a{", "{", "[", `\`, "a{1", "a{12,", "(a|b"}},
		{7, "a|()*", []string{""}},
		{5, "a|()*{1}", []string{"", "(a"}},
		{6, "0149,}", []string{"a{", "{", "a{1", "(a){", "|{", ".*{"}},
		{6, `[^a-]\`, []string{"", "a", "("}},
		{6, "{}az09", []string{"", "a", "{"}},
		{5, "{}Aa0_ ", []string{"", "b{abcdefghij", "{abcdefghijk"}},
		{6, `\x4aGn`, []string{"", `(\`, `a|\x`}},
	} {
		for size := range w.size + 1 {
			for _, b := range w.begins {
				every(size, split(w.pieces), func(s string) { check(t, b+s) })
			}
		}
	}
}

func TestEveryMixOfPieces(t *testing.T) {
	pieces := []string{"a", "|", "(", ")", "*", "+", "?", "{2}", "{0,3}", "{1,}", "{name}", "[^a-c]", ".", `\n`, `\|`, "()", "{0}", "{41}", `\`, "]", "["}
	for size := range 5 {
		every(size, pieces, func(s string) { check(t, s) })
	}
	for _, around := range [][2]string{{"(", ")"}, {"x", "y"}, {"x|", "|y"}, {"((", ")?)*"}, {"(x|", ")"}, {"", "{2}"}, {"(", ""}, {"", ")"}} {
		every(3, pieces, func(s string) { check(t, around[0]+s+around[1]) })
	}
}

// draws are numbers that look random and are the same each time.
type draws uint32

func (d *draws) below(n int) int {
	*d = *d*1664525 + 1013904223
	return int(uint64(*d) * uint64(n) >> 32)
}

// wrecked is a text with some of its bytes changed, taken out or put in.
func (d *draws) wrecked(s string) string {
	const some = "a|*+?()[]{}.\\/,0149-^xn\n\x00\xff"
	for range 1 + d.below(3) {
		k := d.below(len(s) + 1)
		c := some[d.below(len(some)):][:1]
		switch d.below(3) {
		case 0:
			s = s[:k] + c + s[k:]
		case 1:
			s = s[:k] + c + s[min(k+1, len(s)):]
		default:
			s = s[:k] + s[min(k+1, len(s)):]
		}
	}
	return s
}

func TestTextsThatLookRandom(t *testing.T) {
	d := draws(8)
	pieces := []string{"a", "b", "|", "(", "(", ")", ")", "*", "+", "?", "{2}", "{0,3}", "{1,}", "{40,40}", "{n}", "{n0}", "[a-c]", "[^\\n]", ".", "\\n", "\\x00", "\\*", ";", " ", "\n", "\xff"}
	for range 60000 {
		var s strings.Builder
		for range d.below(24) {
			s.WriteString(pieces[d.below(len(pieces))])
		}
		check(t, s.String())
		check(t, d.wrecked(s.String()))
	}
}
