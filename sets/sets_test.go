package sets

import (
	"bytes"
	"math"
	"slices"
	"testing"
)

// model is a set as plainly as it can be told: which of the bytes are in it.
type model [256]bool

// borders are the first and last bytes of the words, and their neighbours.
var borders = []byte{0, 1, 62, 63, 64, 65, 126, 127, 128, 129, 190, 191, 192, 193, 254, 255}

func (m model) set() Set {
	var s Set
	for c, in := range m {
		if in {
			s[c/64] |= 1 << (c % 64)
		}
	}
	return s
}

func (m model) list() []byte {
	var list []byte
	for c, in := range m {
		if in {
			list = append(list, byte(c))
		}
	}
	return list
}

func (m model) spans() []Between {
	var list []Between
	for c := 0; c < 256; c++ {
		if !m[c] {
			continue
		}
		hi := c
		for hi < 255 && m[hi+1] {
			hi++
		}
		list = append(list, Between{byte(c), byte(hi)})
		c = hi
	}
	return list
}

func modelOf(list []byte) model {
	var m model
	for _, c := range list {
		m[c] = true
	}
	return m
}

// models are the empty set, all bytes, single bytes and spans at the borders, and mixed sets from thin to dense.
func models() []model {
	var empty, all model
	for c := range all {
		all[c] = true
	}
	list := []model{empty, all, modelOf(borders)}
	for _, lo := range borders {
		for _, hi := range borders {
			var m model
			for c := int(lo); c <= int(hi); c++ {
				m[c] = true
			}
			list = append(list, m)
		}
	}
	number := uint32(1)
	for i := range 60 {
		var m model
		for c := range m {
			number = number*1664525 + 1013904223
			m[c] = int(number>>24) <= 4*(i+2)
		}
		list = append(list, m)
	}
	return list
}

func TestTheBitOfAByte(t *testing.T) {
	for c := range 256 {
		var want Set
		want[c/64] = 1 << (c % 64)
		if got := One(byte(c)); got != want {
			t.Errorf("One(%d) = %x, want %x", c, got, want)
		}
	}
}

func TestSpan(t *testing.T) {
	for lo := range 256 {
		for hi := range 256 {
			var m model
			for c := lo; c <= hi; c++ {
				m[c] = true
			}
			if got := Span(byte(lo), byte(hi)); got != m.set() {
				t.Fatalf("Span(%d, %d) = %x, want %x", lo, hi, got, m.set())
			}
		}
	}
}

func TestSpanFromAGreaterByteIsEmpty(t *testing.T) {
	for _, b := range []Between{{1, 0}, {64, 63}, {128, 127}, {192, 191}, {255, 254}, {255, 0}, {99, 97}} {
		if got := Span(b.Lo, b.Hi); got != (Set{}) {
			t.Errorf("Span(%d, %d) = %x, want it empty", b.Lo, b.Hi, got)
		}
	}
}

func TestOf(t *testing.T) {
	for _, list := range [][]byte{nil, {}, {0}, {255}, {255, 0, 255, 64, 63, 64}, []byte("banana"), borders} {
		if got, want := Of(list), modelOf(list).set(); got != want {
			t.Errorf("Of(%v) = %x, want %x", list, got, want)
		}
	}
}

func TestOfLeavesItsArgument(t *testing.T) {
	whole := []byte{9, 3, 3, 200, 77}
	before := bytes.Clone(whole)
	Of(whole[:3])
	if !bytes.Equal(whole, before) {
		t.Errorf("Of changed its list, or what lies behind it: %v, was %v", whole, before)
	}
}

func TestAll(t *testing.T) {
	want := Set{math.MaxUint64, math.MaxUint64, math.MaxUint64, math.MaxUint64}
	if got := All(); got != want {
		t.Errorf("All() = %x, want %x", got, want)
	}
}

func TestHas(t *testing.T) {
	for _, m := range models() {
		s := m.set()
		for c, want := range m {
			if got := s.Has(byte(c)); got != want {
				t.Fatalf("%x.Has(%d) = %t, want %t", s, c, got, want)
			}
		}
	}
}

func TestTwoSets(t *testing.T) {
	list := models()
	for _, a := range list {
		for _, b := range list {
			var or, and, minus model
			for c := range a {
				or[c] = a[c] || b[c]
				and[c] = a[c] && b[c]
				minus[c] = a[c] && !b[c]
			}
			s, o := a.set(), b.set()
			if got := s.Or(o); got != or.set() {
				t.Fatalf("%x.Or(%x) = %x, want %x", s, o, got, or.set())
			}
			if got := s.And(o); got != and.set() {
				t.Fatalf("%x.And(%x) = %x, want %x", s, o, got, and.set())
			}
			if got := s.Minus(o); got != minus.set() {
				t.Fatalf("%x.Minus(%x) = %x, want %x", s, o, got, minus.set())
			}
			if (s == o) != (a == b) {
				t.Fatalf("%x == %x is %t, want %t", s, o, s == o, a == b)
			}
			if s != a.set() || o != b.set() {
				t.Fatalf("a call changed %x or %x", a.set(), b.set())
			}
		}
	}
}

func TestNot(t *testing.T) {
	for _, m := range models() {
		var not model
		for c := range m {
			not[c] = !m[c]
		}
		s := m.set()
		if got := s.Not(); got != not.set() {
			t.Errorf("%x.Not() = %x, want %x", s, got, not.set())
		}
		if s != m.set() {
			t.Errorf("Not changed its set: %x, was %x", s, m.set())
		}
	}
}

func TestLenAndEmpty(t *testing.T) {
	for _, m := range models() {
		s, want := m.set(), len(m.list())
		if got := s.Len(); got != want {
			t.Errorf("%x.Len() = %d, want %d", s, got, want)
		}
		if got := s.Empty(); got != (want == 0) {
			t.Errorf("%x.Empty() = %t, want %t", s, got, want == 0)
		}
	}
	for c := range 256 {
		if One(byte(c)).Empty() {
			t.Errorf("One(%d) is said to be empty", c)
		}
	}
}

func TestLeast(t *testing.T) {
	for _, m := range models() {
		want := -1
		if list := m.list(); len(list) > 0 {
			want = int(list[0])
		}
		if got := m.set().Least(); got != want {
			t.Errorf("%x.Least() = %d, want %d", m.set(), got, want)
		}
	}
}

func TestList(t *testing.T) {
	for _, m := range models() {
		s := m.set()
		if got, want := s.List(), m.list(); !bytes.Equal(got, want) {
			t.Errorf("%x.List() = %v, want %v", s, got, want)
		}
	}
}

func TestSpans(t *testing.T) {
	for _, m := range models() {
		s := m.set()
		if got, want := s.Spans(), m.spans(); !slices.Equal(got, want) {
			t.Errorf("%x.Spans() = %v, want %v", s, got, want)
		}
	}
}

func TestSpansAtTheEdges(t *testing.T) {
	cases := []struct {
		set  Set
		want []Between
	}{
		{Set{}, nil},
		{All(), []Between{{0, 255}}},
		{Span(97, 99), []Between{{97, 99}}},
		{Span(63, 64), []Between{{63, 64}}},
		{Of([]byte{0, 255}), []Between{{0, 0}, {255, 255}}},
		{Of([]byte{62, 64}), []Between{{62, 62}, {64, 64}}},
		{Span(1, 254).Not(), []Between{{0, 0}, {255, 255}}},
		{One(128).Not(), []Between{{0, 127}, {129, 255}}},
	}
	for _, c := range cases {
		if got := c.set.Spans(); !slices.Equal(got, c.want) {
			t.Errorf("%x.Spans() = %v, want %v", c.set, got, c.want)
		}
	}
}

func TestNth(t *testing.T) {
	for _, m := range models() {
		s, list := m.set(), m.list()
		for n, want := range list {
			if got := s.Nth(n); got != int(want) {
				t.Fatalf("%x.Nth(%d) = %d, want %d", s, n, got, want)
			}
		}
	}
}

func TestNthOutOfBounds(t *testing.T) {
	for _, m := range models() {
		s := m.set()
		for _, n := range []int{math.MinInt, math.MinInt + 1, -256, -1, s.Len(), s.Len() + 1, 256, 257, math.MaxInt} {
			if got := s.Nth(n); got != -1 {
				t.Errorf("%x.Nth(%d) = %d, want -1", s, n, got)
			}
		}
	}
}

func TestResultsBelongToTheCaller(t *testing.T) {
	s := Of(borders)
	list, spans := s.List(), s.Spans()
	for i := range list {
		list[i] = 7
	}
	for i := range spans {
		spans[i] = Between{7, 7}
	}
	m := modelOf(borders)
	if s != m.set() || !bytes.Equal(s.List(), m.list()) || !slices.Equal(s.Spans(), m.spans()) {
		t.Error("overwriting a result changed the set, or a later result")
	}
}
