// Package sets is layer 1: see shared/doc/01-sets.md.
package sets

import (
	"iter"
	"math/bits"
	"slices"
)

// Set is a set of bytes.
type Set [4]uint64

// Between is a span of bytes.
type Between struct {
	Lo, Hi byte
}

// One is one byte.
func One(c byte) Set {
	var s Set
	s[c/64] = 1 << (c % 64)
	return s
}

// Span is the bytes from one to another one.
func Span(lo, hi byte) Set {
	var s Set
	// An int, since a byte would never get past 255.
	for c := int(lo); c <= int(hi); c++ {
		s = s.Or(One(byte(c)))
	}
	return s
}

// Of is the bytes of a list.
func Of(list []byte) Set {
	var s Set
	for _, c := range list {
		s = s.Or(One(c))
	}
	return s
}

// All is all bytes.
func All() Set { return Set{}.Not() }

// Has tells whether a byte is in it.
func (s Set) Has(c byte) bool { return !s.And(One(c)).Empty() }

// Or is what is in one of both.
func (s Set) Or(t Set) Set {
	for i := range s {
		s[i] |= t[i]
	}
	return s
}

// And is what is in both.
func (s Set) And(t Set) Set {
	for i := range s {
		s[i] &= t[i]
	}
	return s
}

// Minus is what isn't in the other one.
func (s Set) Minus(t Set) Set { return s.And(t.Not()) }

// Not is what isn't in it.
func (s Set) Not() Set {
	for i := range s {
		s[i] = ^s[i]
	}
	return s
}

// Len is how many there are.
func (s Set) Len() int {
	n := 0
	for _, word := range s {
		n += bits.OnesCount64(word)
	}
	return n
}

// Empty tells whether there are none.
func (s Set) Empty() bool { return s == Set{} }

// Least is the least byte.
func (s Set) Least() int { return s.Nth(0) }

// List is all of them.
func (s Set) List() []byte { return slices.Collect(s.each()) }

// Spans is the spans that make it up.
func (s Set) Spans() []Between {
	var list []Between
	for c := range s.each() {
		last := len(list) - 1
		if last >= 0 && list[last].Hi+1 == c {
			list[last].Hi = c
		} else {
			list = append(list, Between{c, c})
		}
	}
	return list
}

// Nth is the byte at a place.
func (s Set) Nth(n int) int {
	at := 0
	for c := range s.each() {
		if at == n {
			return int(c)
		}
		at++
	}
	return -1
}

// each yields the bytes in increasing order.
func (s Set) each() iter.Seq[byte] {
	return func(yield func(byte) bool) {
		for i, word := range s {
			// word & (word - 1) drops the least bit, so only bytes that are in it cost a round.
			for ; word != 0; word &= word - 1 {
				if !yield(byte(64*i + bits.TrailingZeros64(word))) {
					return
				}
			}
		}
	}
}
