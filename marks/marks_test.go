package marks

import (
	"errors"
	"math"
	"slices"
	"strings"
	"testing"

	"doffer/api"
)

// model is a set as plainly as it can be told: its bound, and its numbers in increasing order.
type model struct {
	bound int
	list  []int
}

func (p *model) has(i int) bool { return slices.Contains(p.list, i) }

func (p *model) put(i int) bool {
	if i < 0 || i >= p.bound || p.has(i) {
		return false
	}
	p.list = append(p.list, i)
	slices.Sort(p.list)
	return true
}

func (p *model) out(i int) bool {
	if !p.has(i) {
		return false
	}
	p.list = slices.DeleteFunc(p.list, func(x int) bool { return x == i })
	return true
}

func (p *model) or(o *model) bool {
	added := false
	for _, i := range slices.Clone(o.list) {
		if p.put(i) {
			added = true
		}
	}
	return added
}

func (p *model) meets(o *model) bool { return slices.ContainsFunc(p.list, o.has) }

func (p *model) same(o *model) bool { return slices.Equal(p.list, o.list) }

func (p *model) key() string {
	var key strings.Builder
	for _, i := range p.list {
		for _, part := range []int{1 << 24, 1 << 16, 1 << 8, 1} {
			key.WriteByte(byte(i / part % 256))
		}
	}
	return key.String()
}

func (p *model) after(i int) int {
	for _, x := range p.list {
		if x > i {
			return x
		}
	}
	return -1
}

// both is a set and its model; the set may be nil, as the model of the bound 0.
type both struct {
	m *Marks
	p *model
}

func made(t *testing.T, bound int, list ...int) both {
	t.Helper()
	m, err := New(bound)
	if err != nil || m == nil {
		t.Fatalf("New(%d) = %v, %v", bound, m, err)
	}
	b := both{m, &model{bound: bound}}
	for _, i := range list {
		if !m.Put(i) {
			t.Fatalf("Put(%d) = false, want it added below %d", i, bound)
		}
		b.p.put(i)
	}
	return b
}

func none() both { return both{nil, &model{}} }

// probes are numbers at every edge: of int, of the words, of the greatest bound, of a set's bound, and of its elements.
func probes(p *model) []int {
	list := []int{math.MinInt, math.MinInt + 1, math.MinInt32, -65536, -65, -64, -63, -2, -1, 0, 1, 62, 63, 64, 65, 127, 128,
		65535, 65536, 65537, math.MaxInt32, math.MaxInt - 64, math.MaxInt - 1, math.MaxInt}
	for _, i := range append(slices.Clone(p.list), p.bound) {
		list = append(list, i-1, i, i+1)
	}
	return list
}

// check compares all that a set tells of itself with its model.
func check(t *testing.T, b both) {
	t.Helper()
	if got := b.m.Size(); got != b.p.bound {
		t.Fatalf("Size() = %d, want %d", got, b.p.bound)
	}
	if got := b.m.Len(); got != len(b.p.list) {
		t.Fatalf("Len() = %d, want %d: %v", got, len(b.p.list), b.p.list)
	}
	if got := b.m.List(); !slices.Equal(got, b.p.list) {
		t.Fatalf("List() = %v, want %v", got, b.p.list)
	}
	if got, want := b.m.Key(), b.p.key(); got != want {
		t.Fatalf("Key() = %x, want %x", got, want)
	}
	for _, i := range probes(b.p) {
		if got, want := b.m.Has(i), b.p.has(i); got != want {
			t.Fatalf("Has(%d) = %t, want %t: %v", i, got, want, b.p.list)
		}
		if got, want := b.m.After(i), b.p.after(i); got != want {
			t.Fatalf("After(%d) = %d, want %d: %v", i, got, want, b.p.list)
		}
	}
}

// checkTwo compares what two sets tell of one another with their models.
func checkTwo(t *testing.T, a, b both) {
	t.Helper()
	if got, want := a.m.Meets(b.m), a.p.meets(b.p); got != want {
		t.Fatalf("Meets = %t, want %t: %v of %v", got, want, a.p, b.p)
	}
	if got, want := a.m.Same(b.m), a.p.same(b.p); got != want {
		t.Fatalf("Same = %t, want %t: %v of %v", got, want, a.p, b.p)
	}
	if got, want := a.m.Key() == b.m.Key(), a.p.same(b.p); got != want {
		t.Fatalf("equal keys: %t, want %t: %v and %v", got, want, a.p, b.p)
	}
}

func equal(t *testing.T, call string, got, want bool) {
	t.Helper()
	if got != want {
		t.Fatalf("%s = %t, want %t", call, got, want)
	}
}

func TestNewAtItsBounds(t *testing.T) {
	for _, n := range []int{0, 1, 2, 63, 64, 65, 127, 128, 129, 4000, 65535, 65536} {
		check(t, made(t, n))
	}
	for _, n := range []int{math.MinInt, -65536, -64, -1, 65537, 65600, 1 << 20, math.MaxInt - 63, math.MaxInt} {
		if m, err := New(n); m != nil || !errors.Is(err, api.ErrRange) {
			t.Errorf("New(%d) = %v, %v, want nil and ErrRange", n, m, err)
		}
	}
}

func TestEveryNumberOfABound(t *testing.T) {
	for n := range 131 {
		b := made(t, n)
		for i := -2; i < n+66; i++ {
			equal(t, "Out of a missing one", b.m.Out(i), false)
			equal(t, "Put", b.m.Put(i), b.p.put(i))
			equal(t, "Put of a present one", b.m.Put(i), false)
			equal(t, "Has", b.m.Has(i), 0 <= i && i < n)
		}
		check(t, b)
		for i := -2; i < n+66; i++ {
			equal(t, "Out", b.m.Out(i), b.p.out(i))
			equal(t, "Out again", b.m.Out(i), false)
			equal(t, "Has", b.m.Has(i), false)
		}
		check(t, b)
	}
}

func TestNumbersOutOfBoundsChangeNothing(t *testing.T) {
	for _, n := range []int{0, 1, 5, 63, 64, 65, 70, 65536} {
		b := made(t, n)
		if n > 0 {
			b.m.Put(n - 1)
			b.p.put(n - 1)
		}
		for _, i := range []int{math.MinInt, -65536, -64, -1, n, n + 1, n + 63, n + 64, 65536, 1 << 20, math.MaxInt} {
			equal(t, "Put", b.m.Put(i), false)
			equal(t, "Out", b.m.Out(i), false)
			equal(t, "Has", b.m.Has(i), false)
		}
		check(t, b)
	}
}

func TestNilIsEmptyWithTheBoundZero(t *testing.T) {
	check(t, none())
	for _, i := range probes(&model{}) {
		equal(t, "nil.Put", none().m.Put(i), false)
		equal(t, "nil.Out", none().m.Out(i), false)
	}
	for _, b := range []both{none(), made(t, 0), made(t, 70), made(t, 1, 0), made(t, 70, 3, 69)} {
		equal(t, "nil.Or", none().m.Or(b.m), false)
		equal(t, "Or(nil)", b.m.Or(nil), false)
		equal(t, "nil.Meets", none().m.Meets(b.m), false)
		equal(t, "Meets(nil)", b.m.Meets(nil), false)
		equal(t, "nil.Same", none().m.Same(b.m), len(b.p.list) == 0)
		equal(t, "Same(nil)", b.m.Same(nil), len(b.p.list) == 0)
		check(t, b)
	}
	check(t, both{none().m.Copy(), &model{}})
}

// pairs are two sets of the bounds a and b, of each two of some lists as far as they are below the bounds.
func pairs(t *testing.T, a, b int, each func(x, y both)) {
	lists := [][]int{{}, {0}, {62}, {63}, {64}, {65}, {127}, {128}, {200}, {0, 63, 64, 127, 128, 191, 192},
		{1, 62, 65, 126, 129, 190, 193}, {0, 1, 2, 3, 4, 60, 61, 62, 63}, {64, 65, 66, 67, 68, 69, 70, 100}}
	below := func(n int, list []int) []int {
		return slices.DeleteFunc(slices.Clone(list), func(i int) bool { return i >= n })
	}
	for _, one := range lists {
		for _, two := range lists {
			each(made(t, a, below(a, one)...), made(t, b, below(b, two)...))
		}
	}
}

func TestTwoSetsOfAnyBounds(t *testing.T) {
	bounds := []int{0, 1, 2, 62, 63, 64, 65, 66, 70, 127, 128, 129, 300}
	for _, a := range bounds {
		for _, b := range bounds {
			pairs(t, a, b, func(x, y both) {
				checkTwo(t, x, y)
				equal(t, "Or", x.m.Or(y.m), x.p.or(y.p))
				check(t, x)
				check(t, y)
				equal(t, "Or again", x.m.Or(y.m), false)
				checkTwo(t, x, y)
				checkTwo(t, y, x)
			})
		}
	}
}

func TestOrCutsAtItsOwnBound(t *testing.T) {
	whole := made(t, 200)
	for i := range 200 {
		whole.m.Put(i)
		whole.p.put(i)
	}
	for n := range 201 {
		b := made(t, n)
		equal(t, "Or", b.m.Or(whole.m), n > 0)
		b.p.or(whole.p)
		check(t, b)
		equal(t, "Or of what is cut off", b.m.Or(whole.m), false)
		equal(t, "Same", b.m.Same(whole.m), n == 200)
		equal(t, "Put at the bound", b.m.Put(n), false)
	}
	check(t, whole)
}

func TestSetsGoOnApartAfterOr(t *testing.T) {
	for _, bounds := range [][2]int{{70, 70}, {64, 64}, {70, 200}, {200, 70}} {
		for _, first := range [][]int{{}, {1}, {3, 63}} {
			a, b := made(t, bounds[0], first...), made(t, bounds[1], 3, 63)
			equal(t, "Or", a.m.Or(b.m), a.p.or(b.p))
			for i := range bounds[0] {
				equal(t, "Put after Or", a.m.Put(i), a.p.put(i))
			}
			check(t, b)
			equal(t, "Out of the other one", b.m.Out(63), b.p.out(63))
			check(t, a)
			check(t, b)
		}
	}
}

func TestASetAndItself(t *testing.T) {
	for _, b := range []both{none(), made(t, 0), made(t, 70), made(t, 70, 0, 63, 64, 69)} {
		equal(t, "Or with itself", b.m.Or(b.m), false)
		equal(t, "Meets itself", b.m.Meets(b.m), len(b.p.list) > 0)
		equal(t, "Same as itself", b.m.Same(b.m), true)
		check(t, b)
	}
}

func TestKeyIsBigEndian(t *testing.T) {
	cases := []struct {
		bound int
		list  []int
		want  string
	}{
		{5, nil, ""},
		{5, []int{3}, "\x00\x00\x00\x03"},
		{1, []int{0}, "\x00\x00\x00\x00"},
		{300, []int{258, 255, 256, 0}, "\x00\x00\x00\x00\x00\x00\x00\xff\x00\x00\x01\x00\x00\x00\x01\x02"},
		{65536, []int{65535, 4660}, "\x00\x00\x12\x34\x00\x00\xff\xff"},
	}
	for _, c := range cases {
		if got := made(t, c.bound, c.list...).m.Key(); got != c.want {
			t.Errorf("Key of %v = %x, want %x", c.list, got, c.want)
		}
	}
}

func TestAfterAtItsEdges(t *testing.T) {
	cases := []struct{ bound, i, want int }{
		{200, math.MinInt, 0}, {200, -2, 0}, {200, -1, 0}, {200, 0, 63}, {200, 62, 63}, {200, 63, 64}, {200, 64, 199},
		{200, 128, 199}, {200, 198, 199}, {200, 199, -1}, {200, 200, -1}, {200, 256, -1}, {200, math.MaxInt, -1},
		{1000, 199, -1}, {1000, 999, -1}, {1000, 1000, -1}, {1000, math.MaxInt - 1, -1},
	}
	for _, c := range cases {
		if got := made(t, c.bound, 0, 63, 64, 199).m.After(c.i); got != c.want {
			t.Errorf("After(%d) below %d = %d, want %d", c.i, c.bound, got, c.want)
		}
	}
}

func TestTheGreatestSet(t *testing.T) {
	m := made(t, 65536).m
	for i := 65535; i >= 0; i-- {
		equal(t, "Put", m.Put(i), true)
	}
	if m.Len() != 65536 || len(m.Key()) != 4*65536 {
		t.Fatalf("Len() = %d and %d bytes of Key, want all", m.Len(), len(m.Key()))
	}
	for i, got := range m.List() {
		if got != i || m.After(i-1) != i {
			t.Fatalf("number %d of all is %d, after it %d", i, got, m.After(i-1))
		}
	}
	equal(t, "Put(65536)", m.Put(65536), false)
	equal(t, "Or into a small one", made(t, 3).m.Or(m), true)
	equal(t, "Meets", made(t, 65536, 65535).m.Meets(m), true)
	equal(t, "Same", m.Copy().Same(m), true)
	equal(t, "Out(65535)", m.Out(65535), true)
	if got := m.After(65534); got != -1 {
		t.Errorf("After(65534) = %d, want -1", got)
	}
}

func TestCopyGoesOnApart(t *testing.T) {
	for _, bound := range []int{0, 1, 64, 70, 200} {
		b := made(t, bound)
		b.m.Put(bound - 1)
		b.p.put(bound - 1)
		c := both{b.m.Copy(), &model{bound, slices.Clone(b.p.list)}}
		check(t, c)
		for i := range bound {
			equal(t, "Put in the copy", c.m.Put(i), c.p.put(i))
			check(t, b)
		}
		check(t, c)
		equal(t, "Out of the first", b.m.Out(bound-1), b.p.out(bound-1))
		check(t, b)
		check(t, c)
	}
}

func TestResultsBelongToTheCaller(t *testing.T) {
	b := made(t, 70, 3, 65)
	list := b.m.List()
	list[0], list[1] = 7, 7
	_ = append(list[:0], 9, 9, 9)
	check(t, b)
}

// numbers are those that TestEverySequence uses: at the edges of words, and of the bounds 64 and 66.
var numbers = []int{-1, 0, 63, 64, 65, 66}

// replay makes the calls of a sequence on two sets of the bounds 66 and 64 and on nil, a digit each, and checks every result.
func replay(t *testing.T, calls []int) {
	a, b := made(t, 66), made(t, 64)
	for _, call := range calls {
		i := numbers[call%len(numbers)]
		switch call / len(numbers) {
		case 0:
			equal(t, "a.Put", a.m.Put(i), a.p.put(i))
		case 1:
			equal(t, "a.Out", a.m.Out(i), a.p.out(i))
		case 2:
			equal(t, "b.Put", b.m.Put(i), b.p.put(i))
		default:
			a, b = combine(t, call%len(numbers), a, b)
		}
	}
	check(t, a)
	check(t, b)
	checkTwo(t, a, b)
	checkTwo(t, b, a)
}

// combine makes the call of a number that two sets have with one another.
func combine(t *testing.T, call int, a, b both) (both, both) {
	switch call {
	case 0:
		equal(t, "a.Or(b)", a.m.Or(b.m), a.p.or(b.p))
	case 1:
		equal(t, "b.Or(a)", b.m.Or(a.m), b.p.or(a.p))
	case 2:
		return b, a
	case 3:
		b = both{a.m.Copy(), &model{a.p.bound, slices.Clone(a.p.list)}}
	case 4:
		a = both{b.m.Copy(), &model{b.p.bound, slices.Clone(b.p.list)}}
	case 5:
		b = none()
	}
	return a, b
}

func TestEverySequence(t *testing.T) {
	const kinds, most = 24, 3
	var longer func(calls []int)
	longer = func(calls []int) {
		replay(t, calls)
		if len(calls) == most {
			return
		}
		for call := range kinds {
			longer(append(slices.Clone(calls), call))
		}
	}
	longer(nil)
}

// draws is a row of numbers that look random and are the same each time.
type draws uint32

func (d *draws) below(n int) int {
	*d = *d*1664525 + 1013904223
	return int(uint64(*d) * uint64(n) >> 32)
}

func TestLongSequences(t *testing.T) {
	for seed := range 40 {
		d := draws(seed)
		all := []both{none()}
		for _, bound := range []int{0, 1, 63, 64, 65, 130, 1000, 65536} {
			all = append(all, made(t, bound))
		}
		// Copies go to the last place alone, so that the other bounds stay.
		copied := len(all)
		all = append(all, none())
		for range 400 {
			at, from := d.below(len(all)), d.below(len(all))
			a, b := all[at], all[from]
			i := d.below([]int{4, 70, 140, 65600}[d.below(4)]) - 2
			switch d.below(8) {
			case 0, 1, 2, 3:
				equal(t, "Put", a.m.Put(i), a.p.put(i))
			case 4, 5:
				if len(a.p.list) > 0 {
					i = a.p.list[d.below(len(a.p.list))]
				}
				equal(t, "Out", a.m.Out(i), a.p.out(i))
			case 6:
				equal(t, "Or", a.m.Or(b.m), a.p.or(b.p))
			case 7:
				at = copied
				all[at] = both{b.m.Copy(), &model{b.p.bound, slices.Clone(b.p.list)}}
			}
			check(t, all[at])
			check(t, b)
			checkTwo(t, all[at], b)
		}
	}
}
