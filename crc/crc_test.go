package crc

import (
	"bytes"
	"errors"
	"hash/crc32"
	"math"
	"slices"
	"testing"

	"doffer/api"
)

// model is the checksum as Go's own library tells it.
func model(b []byte) int { return int(crc32.ChecksumIEEE(b)) }

// frame is the bytes and their checksum as plainly as it can be written.
func frame(b []byte) []byte {
	s := model(b)
	return slices.Concat(b, []byte{byte(s % 256), byte(s / 256 % 256), byte(s / 65536 % 256), byte(s / 16777216)})
}

// texts are bytes of many lengths and of all values.
func texts() [][]byte {
	list := [][]byte{nil, {}, {0}, {255}, {0, 0, 0, 0}, {255, 255, 255, 255}, []byte("123456789"), bytes.Repeat([]byte{0}, 100)}
	var all []byte
	for i := range 700 {
		all = append(all, byte(i*i+i/3))
	}
	for _, n := range []int{1, 2, 3, 4, 5, 7, 8, 9, 15, 16, 17, 63, 64, 65, 255, 256, 257, 700} {
		list = append(list, all[:n:n])
	}
	return list
}

// roomy is a copy of b with room behind it that holds marks, so that a write there is seen.
func roomy(b []byte) []byte {
	all := slices.Concat(b, bytes.Repeat([]byte{0xa5}, 16))
	return all[:len(b)]
}

// unchanged tells whether a copy that roomy made is as it was.
func unchanged(b, was []byte) bool {
	all := b[:len(b)+16]
	return bytes.Equal(all, slices.Concat(was, bytes.Repeat([]byte{0xa5}, 16)))
}

func TestSumOfKnownTexts(t *testing.T) {
	for text, want := range map[string]int{
		"":          0,
		"\x00":      0xd202ef8d,
		"a":         0xe8b7be43,
		"abc":       0x352441c2,
		"123456789": 3421780262,
		"The quick brown fox jumps over the lazy dog": 0x414fa339,
		"\x00\x00\x00\x00": 0x2144df1c,
		"\xff\xff\xff\xff": 0xffffffff,
	} {
		if got := Sum([]byte(text)); got != want {
			t.Errorf("Sum(%q) = %x, want %x", text, got, want)
		}
	}
}

func TestSumOfEveryPairOfBytes(t *testing.T) {
	for i := range 256 {
		one := []byte{byte(i)}
		if got, want := Sum(one), model(one); got != want {
			t.Fatalf("Sum(%x) = %x, want %x", one, got, want)
		}
		for j := range 256 {
			two := []byte{byte(i), byte(j)}
			if got, want := Sum(two), model(two); got != want {
				t.Fatalf("Sum(%x) = %x, want %x", two, got, want)
			}
		}
	}
}

func TestSumOfTexts(t *testing.T) {
	for _, b := range texts() {
		if got, want := Sum(b), model(b); got != want {
			t.Errorf("Sum(%x) = %x, want %x", b, got, want)
		}
	}
}

func TestSumOfNothing(t *testing.T) {
	for _, parts := range [][][]byte{nil, {}, {nil}, {{}}, {nil, {}, nil}} {
		if got := Sum(parts...); got != 0 {
			t.Errorf("Sum of %d empty parts = %x, want 0", len(parts), got)
		}
	}
	if got := Sum(); got != 0 {
		t.Errorf("Sum() = %x, want 0", got)
	}
}

func TestSumOfManyParts(t *testing.T) {
	all := []byte("one, \x00two, \xffthree")
	want := model(all)
	for i := range len(all) + 1 {
		for j := i; j <= len(all); j++ {
			if got := Sum(all[:i], all[i:j], all[j:]); got != want {
				t.Fatalf("Sum of the parts up to %d, %d and the end = %x, want %x", i, j, got, want)
			}
			if got := Sum(nil, all[:i], []byte{}, all[i:j], nil, nil, all[j:], []byte{}); got != want {
				t.Fatalf("with empty parts among them, up to %d and %d, Sum = %x, want %x", i, j, got, want)
			}
		}
	}
	var single [][]byte
	for i := range all {
		single = append(single, all[i:i+1])
	}
	if got := Sum(single...); got != want {
		t.Errorf("Sum of all bytes as parts = %x, want %x", got, want)
	}
	if got, want := Sum([]byte("b"), []byte("a")), model([]byte("ba")); got != want {
		t.Errorf("Sum(b, a) = %x, want %x: the parts are in order", got, want)
	}
	if got, want := Sum(texts()...), model(slices.Concat(texts()...)); got != want {
		t.Errorf("Sum of all texts = %x, want %x", got, want)
	}
}

func TestSumLeavesItsParts(t *testing.T) {
	was := texts()
	var parts [][]byte
	for _, b := range was {
		parts = append(parts, roomy(b))
	}
	Sum(parts...)
	for i, b := range was {
		if len(parts[i]) != len(b) || !unchanged(parts[i], b) {
			t.Errorf("part %d was changed by Sum", i)
		}
	}
}

func TestMoreGoesOnWithASum(t *testing.T) {
	for _, a := range texts() {
		for _, b := range texts() {
			arg := roomy(b)
			if got, want := More(model(a), arg), model(slices.Concat(a, b)); got != want {
				t.Fatalf("More(the sum of %x, %x) = %x, want %x", a, b, got, want)
			}
			if !unchanged(arg, b) {
				t.Fatalf("More changed its bytes %x", b)
			}
		}
	}
	if got, want := More(0, []byte("123456789")), 0xcbf43926; got != want {
		t.Errorf("More(0, 123456789) = %x, want %x", got, want)
	}
}

func TestMoreOfNoBytes(t *testing.T) {
	for _, sum := range []int{0, 1, 15, 16, 0x7fffffff, 0x80000000, 0xcbf43926, 0xfffffffe, 0xffffffff} {
		for _, b := range [][]byte{nil, {}} {
			if got := More(sum, b); got != sum {
				t.Errorf("More(%x, nothing) = %x, want the same", sum, got)
			}
		}
	}
}

func TestMoreOfNoChecksum(t *testing.T) {
	for _, c := range []struct{ sum, low int }{
		{-1, 0xffffffff},
		{-2, 0xfffffffe},
		{-0x80000000, 0x80000000},
		{-0x80000001, 0x7fffffff},
		{-1 << 32, 0},
		{-1<<32 - 1, 0xffffffff},
		{-1<<32 + 5, 5},
		{1 << 32, 0},
		{1<<32 + 1, 1},
		{1<<32 + 0xcbf43926, 0xcbf43926},
		{7<<40 + 0x12345678, 0x12345678},
		{1 << 62, 0},
		{math.MaxInt, 0xffffffff},
		{math.MaxInt - 1, 0xfffffffe},
		{math.MinInt, 0},
		{math.MinInt + 1, 1},
	} {
		for _, b := range texts() {
			want := int(crc32.Update(uint32(c.low), crc32.IEEETable, b))
			if got := More(c.sum, b); got != want {
				t.Fatalf("More(%d, %x) = %x, want %x as of %x", c.sum, b, got, want, c.low)
			}
			if got := More(c.low, b); got != want {
				t.Fatalf("More(%x, %x) = %x, want %x", c.low, b, got, want)
			}
		}
	}
}

func TestFramed(t *testing.T) {
	for _, b := range [][]byte{nil, {}} {
		if got := Framed(b); !bytes.Equal(got, []byte{0, 0, 0, 0}) {
			t.Errorf("Framed of no bytes = %x, want four zeros", got)
		}
	}
	if got := Framed([]byte("123456789")); string(got) != "123456789\x26\x39\xf4\xcb" {
		t.Errorf("Framed(123456789) = %x, want its sum behind it, the lowest byte first", got)
	}
	for _, b := range texts() {
		arg := roomy(b)
		got := Framed(arg)
		if !bytes.Equal(got, frame(b)) {
			t.Errorf("Framed(%x) = %x, want %x", b, got, frame(b))
		}
		scribble(got)
		if !unchanged(arg, b) {
			t.Errorf("the result of Framed(%x) shares its memory, or it was written to", b)
		}
	}
}

// scribble overwrites a slice with all its room.
func scribble(b []byte) {
	all := b[:cap(b)]
	for i := range all {
		all[i] ^= 0x5a
	}
}

func TestOpenedOfItsFrames(t *testing.T) {
	for _, b := range texts() {
		for _, framed := range [][]byte{frame(b), Framed(b)} {
			arg := roomy(framed)
			got, err := Opened(arg)
			if err != nil || !bytes.Equal(got, b) {
				t.Errorf("Opened(%x) = %x, %v, want %x", framed, got, err, b)
			}
			scribble(got)
			if !unchanged(arg, framed) {
				t.Errorf("the result of Opened(%x) shares its memory, or it was written to", framed)
			}
		}
	}
}

// refused checks that bytes are not opened, and why.
func refused(t *testing.T, b []byte, want error) {
	t.Helper()
	arg := roomy(b)
	got, err := Opened(arg)
	if len(got) != 0 || !errors.Is(err, want) {
		t.Fatalf("Opened(%x) = %x, %v, want nothing and %v", b, got, err, want)
	}
	if !unchanged(arg, b) {
		t.Fatalf("Opened changed its bytes %x", b)
	}
}

func TestOpenedOfFewerThanFour(t *testing.T) {
	refused(t, nil, api.ErrShort)
	refused(t, []byte{}, api.ErrShort)
	for _, c := range []byte{0, 1, 'a', 255} {
		for n := 1; n < 4; n++ {
			refused(t, bytes.Repeat([]byte{c}, n), api.ErrShort)
		}
	}
}

func TestOpenedOfFour(t *testing.T) {
	if got, err := Opened([]byte{0, 0, 0, 0}); err != nil || len(got) != 0 {
		t.Errorf("Opened of four zeros = %x, %v, want no bytes", got, err)
	}
	for i := range 4 {
		for c := 1; c < 256; c++ {
			b := make([]byte, 4)
			b[i] = byte(c)
			refused(t, b, api.ErrSum)
		}
	}
	refused(t, []byte{255, 255, 255, 255}, api.ErrSum)
	refused(t, []byte("1234"), api.ErrSum)
}

func TestOpenedOfAChangedFrame(t *testing.T) {
	for _, b := range texts() {
		if len(b) > 70 {
			continue
		}
		framed := frame(b)
		for i := range framed {
			for c := 1; c < 256; c++ {
				changed := slices.Clone(framed)
				changed[i] ^= byte(c)
				refused(t, changed, api.ErrSum)
			}
		}
	}
}

func TestOpenedOfWhatIsNoFrame(t *testing.T) {
	framed := frame([]byte("123456789"))
	refused(t, []byte("123456789"), api.ErrSum)
	refused(t, []byte("123456789\xcb\xf4\x39\x26"), api.ErrSum)
	refused(t, framed[:len(framed)-1], api.ErrSum)
	refused(t, framed[1:], api.ErrSum)
	refused(t, append(slices.Clone(framed), 0), api.ErrSum)
	refused(t, slices.Concat(framed, []byte{0x26, 0x39, 0xf4, 0xcb}), api.ErrSum)
}

func TestOpenedTwice(t *testing.T) {
	b := []byte("in a frame in a frame")
	once, err := Opened(Framed(Framed(b)))
	if err != nil || !bytes.Equal(once, frame(b)) {
		t.Fatalf("Opened once = %x, %v, want %x", once, err, frame(b))
	}
	twice, err := Opened(once)
	if err != nil || !bytes.Equal(twice, b) {
		t.Errorf("Opened twice = %x, %v, want %x", twice, err, b)
	}
}
