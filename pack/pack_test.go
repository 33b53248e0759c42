package pack

import (
	"bytes"
	"encoding/binary"
	"errors"
	"math"
	"runtime"
	"slices"
	"strings"
	"testing"

	"doffer/api"
)

const greatest = 2147483647

// errOwn is an error that is not of package api.
var errOwn = errors.New("the reader's own")

// number is the encoding of a number as Go's own library tells it.
func number(n int) []byte { return binary.AppendUvarint(nil, uint64(n)) }

// row is the encoding of a row.
func row(list ...int) []byte {
	b := number(len(list))
	for _, n := range list {
		b = append(b, number(n+1)...)
	}
	return b
}

// edges are the smallest and the greatest number of every length, and their neighbours.
func edges() []int {
	list := []int{0, 1, 2, 300, 1000000, greatest - 1, greatest}
	for _, power := range []int{7, 14, 21, 28, 30} {
		for near := -2; near <= 2; near++ {
			list = append(list, 1<<power+near)
		}
	}
	return list
}

// outside are numbers that have no encoding.
var outside = []int{-1, -2, -128, -greatest, -greatest - 1, greatest + 1, greatest + 2, 1 << 32, 1<<32 + 1, 1 << 35, 1 << 62, math.MinInt, math.MinInt + 1, math.MaxInt, math.MaxInt - 1}

// roomy is a copy of b with room behind it that holds marks, so that a write there is seen.
func roomy(b []byte) []byte {
	all := slices.Concat(b, bytes.Repeat([]byte{0xa5}, 16))
	return all[:len(b)]
}

// unchanged tells whether a copy that roomy made is as it was.
func unchanged(b, was []byte) bool {
	all := b[:len(b)+16]
	return bytes.Equal(all, slices.Concat(was, bytes.Repeat([]byte{0xa5}, 16)))
}

// scribble overwrites a slice with all its room.
func scribble(b []byte) {
	all := b[:cap(b)]
	for i := range all {
		all[i] ^= 0x5a
	}
}

// same tells whether an error is the one that is wanted, nil included.
func same(err, want error) bool {
	if want == nil {
		return err == nil
	}
	return errors.Is(err, want)
}

// done checks what a writer has written.
func done(t *testing.T, o *Out, want []byte) {
	t.Helper()
	b, err := o.Done()
	if err != nil || !bytes.Equal(b, want) {
		t.Fatalf("Done() = %x, %v, want %x", b, err, want)
	}
}

// refused checks that a writer has failed.
func refused(t *testing.T, o *Out) {
	t.Helper()
	b, err := o.Done()
	if len(b) != 0 || !errors.Is(err, api.ErrRange) {
		t.Fatalf("Done() = %x, %v, want nothing and %v", b, err, api.ErrRange)
	}
}

// state checks what a reader has left, and its errors.
func state(t *testing.T, i *In, left int, err error) {
	t.Helper()
	if i.Left() != left || !same(i.Err(), err) {
		t.Fatalf("%d bytes are left, with the error %v, want %d and %v", i.Left(), i.Err(), left, err)
	}
	end := err
	if err == nil && left > 0 {
		end = api.ErrLong
	}
	if got := i.End(); !same(got, end) {
		t.Fatalf("End() = %v, want %v", got, end)
	}
	if i.Left() != left || !same(i.Err(), err) {
		t.Fatalf("End changed the reader: %d bytes are left, with the error %v", i.Left(), i.Err())
	}
}

func TestNothingWritten(t *testing.T) {
	var o Out
	done(t, &o, nil)
	done(t, new(Out), nil)
}

func TestTheExample(t *testing.T) {
	var o Out
	o.Num(300)
	done(t, &o, []byte{0xac, 0x02})
	i := Read([]byte{0xac, 0x02})
	if n := i.Num(greatest); n != 300 {
		t.Errorf("Num of ac 02 = %d, want 300", n)
	}
	state(t, i, 0, nil)
}

func TestNumbersWritten(t *testing.T) {
	for n, want := range map[int]string{
		0:          "\x00",
		1:          "\x01",
		127:        "\x7f",
		128:        "\x80\x01",
		16383:      "\xff\x7f",
		16384:      "\x80\x80\x01",
		2097151:    "\xff\xff\x7f",
		2097152:    "\x80\x80\x80\x01",
		268435455:  "\xff\xff\xff\x7f",
		268435456:  "\x80\x80\x80\x80\x01",
		2147483646: "\xfe\xff\xff\xff\x07",
		2147483647: "\xff\xff\xff\xff\x07",
	} {
		var o Out
		o.Num(n)
		done(t, &o, []byte(want))
	}
	for _, n := range edges() {
		var o Out
		o.Num(n)
		done(t, &o, number(n))
	}
}

func TestNumbersRefused(t *testing.T) {
	for _, n := range outside {
		var o Out
		o.Num(n)
		refused(t, &o)
	}
}

func TestBytesAndTextsWritten(t *testing.T) {
	for _, n := range []int{0, 1, 2, 127, 128, 129, 300, 16383, 16384, 70000} {
		b := bytes.Repeat([]byte{0xff, 0, 'a'}, n/3+1)[:n]
		arg := roomy(b)
		want := slices.Concat(number(n), b)
		var o, p Out
		o.Bytes(arg)
		p.Text(string(b))
		done(t, &o, want)
		done(t, &p, want)
		if !unchanged(arg, b) {
			t.Errorf("Bytes wrote to its %d bytes, or behind them", n)
		}
		scribble(arg)
		done(t, &o, want)
	}
	var o Out
	o.Bytes(nil)
	o.Text("")
	o.Bytes([]byte{})
	done(t, &o, []byte{0, 0, 0})
	o.Text("\xff\x00é")
	done(t, &o, []byte("\x00\x00\x00\x04\xff\x00\xc3\xa9"))
}

func TestEveryByteWritten(t *testing.T) {
	var o Out
	var want []byte
	for c := range 256 {
		o.Byte(byte(c))
		want = append(want, byte(c))
		done(t, &o, want)
	}
}

func TestRowsWritten(t *testing.T) {
	for _, c := range []struct {
		list []int
		want string
	}{
		{nil, "\x00"},
		{[]int{}, "\x00"},
		{[]int{-1}, "\x01\x00"},
		{[]int{0}, "\x01\x01"},
		{[]int{126, 127}, "\x02\x7f\x80\x01"},
		{[]int{2147483646}, "\x01\xff\xff\xff\xff\x07"},
		{[]int{-1, 2147483646, -1}, "\x03\x00\xff\xff\xff\xff\x07\x00"},
	} {
		var o Out
		o.Row(c.list)
		done(t, &o, []byte(c.want))
	}
	long := make([]int, 300)
	for k := range long {
		long[k] = k*k*k - 1
	}
	was := slices.Clone(long)
	var o Out
	o.Row(long[:200])
	done(t, &o, row(was[:200]...))
	if !slices.Equal(long, was) {
		t.Error("Row changed its list, or what is behind it")
	}
}

func TestRowsRefused(t *testing.T) {
	for _, n := range append([]int{greatest}, outside...) {
		if n == -1 {
			continue
		}
		for _, list := range [][]int{{n}, {n, 1}, {1, n}, {-1, 5, n, 7}} {
			var o Out
			o.Row(list)
			refused(t, &o)
		}
	}
}

func TestNothingIsWrittenBehindAnError(t *testing.T) {
	fails := []func(o *Out){
		func(o *Out) { o.Num(-1) },
		func(o *Out) { o.Num(greatest + 1) },
		func(o *Out) { o.Row([]int{3, -2}) },
		func(o *Out) { o.Row([]int{greatest}) },
	}
	for _, fail := range fails {
		var o Out
		o.Num(5)
		o.Text("ab")
		done(t, &o, []byte("\x05\x02ab"))
		fail(&o)
		refused(t, &o)
		for _, more := range slices.Concat(fails, []func(o *Out){
			func(o *Out) { o.Num(1) },
			func(o *Out) { o.Byte(1) },
			func(o *Out) { o.Bytes([]byte{1}) },
			func(o *Out) { o.Text("a") },
			func(o *Out) { o.Row([]int{1}) },
			func(o *Out) { o.Row(nil) },
		}) {
			more(&o)
			refused(t, &o)
		}
	}
}

func TestDoneBelongsToTheCaller(t *testing.T) {
	var o Out
	o.Text("abc")
	first, _ := o.Done()
	scribble(first)
	done(t, &o, []byte("\x03abc"))
	second, _ := o.Done()
	o.Byte('d')
	_ = append(second, 'x')
	done(t, &o, []byte("\x03abcd"))
	if string(second) != "\x03abc" {
		t.Errorf("what Done returned became %q", second)
	}
}

func TestEdgesRead(t *testing.T) {
	for _, n := range edges() {
		b := append(number(n), 'x')
		for _, most := range []int{n, n + 1, greatest, greatest + 1, math.MaxInt} {
			i := Read(b)
			if got := i.Num(most); got != n {
				t.Fatalf("Num(%d) of %x = %d, want %d", most, b, got, n)
			}
			state(t, i, 1, nil)
		}
		for _, most := range []int{n - 1, -1, -greatest, math.MinInt} {
			i := Read(b)
			if got := i.Num(most); got != 0 {
				t.Fatalf("Num(%d) of %x = %d, want 0", most, b, got)
			}
			state(t, i, len(b), api.ErrRange)
		}
	}
}

func TestNumbersThatAreNone(t *testing.T) {
	for _, c := range []struct {
		text string
		want error
	}{
		{"", api.ErrShort},
		{"\x80", api.ErrShort},
		{"\xff", api.ErrShort},
		{"\xff\xff", api.ErrShort},
		{"\x80\x80\x80", api.ErrShort},
		{"\xff\xff\xff\xff", api.ErrShort},
		{"\x80\x00", api.ErrForm},
		{"\xff\x00", api.ErrForm},
		{"\x80\x00abc", api.ErrForm},
		{"\x80\x80\x00", api.ErrForm},
		{"\xff\x80\x00", api.ErrForm},
		{"\x81\x80\x80\x00", api.ErrForm},
		{"\xff\xff\xff\xff\x00", api.ErrForm},
		{"\x80\x80\x80\x80\x80", api.ErrForm},
		{"\xff\xff\xff\xff\xff", api.ErrForm},
		{"\xff\xff\xff\xff\xff\x01", api.ErrForm},
		{"\x80\x80\x80\x80\x80\x00", api.ErrForm},
		{"\x80\x80\x80\x80\x08", api.ErrRange},
		{"\xff\xff\xff\xff\x08", api.ErrRange},
		{"\x80\x80\x80\x80\x10", api.ErrRange},
		{"\x81\x80\x80\x80\x10", api.ErrRange},
		{"\xff\xff\xff\xff\x0f", api.ErrRange},
		{"\x80\x80\x80\x80\x40", api.ErrRange},
		{"\xff\xff\xff\xff\x7f", api.ErrRange},
		{"\xff\xff\xff\xff\x7fx", api.ErrRange},
	} {
		i := Read([]byte(c.text))
		for range 2 {
			if got := i.Num(math.MaxInt); got != 0 {
				t.Errorf("Num of %x = %d, want 0", c.text, got)
			}
			state(t, i, len(c.text), c.want)
		}
		if got := Read([]byte(c.text)).Num(-1); got != 0 {
			t.Errorf("Num(-1) of %x = %d, want 0", c.text, got)
		}
		for _, call := range []func(i *In) bool{
			func(i *In) bool { return len(i.Bytes(greatest)) == 0 },
			func(i *In) bool { return i.Text(-1) == "" },
			func(i *In) bool { return len(i.Row(0, -1, greatest)) == 0 },
			func(i *In) bool { return len(i.Row(-1, 5, 4)) == 0 },
		} {
			i := Read([]byte(c.text))
			if !call(i) {
				t.Errorf("with the length %x there is a value", c.text)
			}
			state(t, i, len(c.text), c.want)
		}
	}
}

func TestBytesRead(t *testing.T) {
	b := []byte{0, 1, 128, 255}
	i := Read(b)
	for k, want := range b {
		if got := i.Byte(); got != want {
			t.Errorf("Byte() = %d, want %d", got, want)
		}
		state(t, i, len(b)-k-1, nil)
	}
	for range 2 {
		if got := i.Byte(); got != 0 {
			t.Errorf("Byte() at the end = %d, want 0", got)
		}
		state(t, i, 0, api.ErrShort)
	}
}

// counted checks what Bytes and Text make of the same bytes.
func counted(t *testing.T, b []byte, most int, want string, left int, err error) {
	t.Helper()
	i, j := Read(b), Read(b)
	if got := i.Bytes(most); string(got) != want {
		t.Fatalf("Bytes(%d) of %.20x = %.20x, want %.20x", most, b, got, want)
	}
	state(t, i, left, err)
	if got := j.Text(most); got != want {
		t.Fatalf("Text(%d) of %.20x = %.20x, want %.20x", most, b, got, want)
	}
	state(t, j, left, err)
}

func TestCountedBytesRead(t *testing.T) {
	for _, n := range []int{0, 1, 2, 127, 128, 129, 16383, 16384} {
		text := strings.Repeat("\xff\x00a", n/3+1)[:n]
		b := slices.Concat(number(n), []byte(text), []byte("xy"))
		for _, most := range []int{n, n + 1, greatest, math.MaxInt} {
			counted(t, b, most, text, 2, nil)
			counted(t, b[:len(b)-2], most, text, 0, nil)
		}
		for _, most := range []int{n - 1, -1, math.MinInt} {
			counted(t, b, most, "", n+2, api.ErrLong)
		}
		if n > 0 {
			counted(t, b[:len(b)-3], n, "", n-1, api.ErrShort)
			counted(t, b[:len(b)-3], n-1, "", n-1, api.ErrLong)
			counted(t, number(n), n, "", 0, api.ErrShort)
			counted(t, number(n), n-1, "", 0, api.ErrLong)
		}
	}
}

func TestGreatLengths(t *testing.T) {
	b := append(number(greatest), "abc"...)
	counted(t, b, greatest, "", 3, api.ErrShort)
	counted(t, b, math.MaxInt, "", 3, api.ErrShort)
	counted(t, b, greatest-1, "", 3, api.ErrLong)
	above := []byte("\x80\x80\x80\x80\x08abc")
	counted(t, above, math.MaxInt, "", len(above), api.ErrRange)
	counted(t, above, 0, "", len(above), api.ErrRange)
}

func TestGreatLengthsTakeNoRoom(t *testing.T) {
	b := append(number(greatest), 1, 1, 1)
	var before, after runtime.MemStats
	runtime.ReadMemStats(&before)
	i, j := Read(b), Read(b)
	list, part := i.Row(greatest, -1, greatest), j.Bytes(greatest)
	runtime.ReadMemStats(&after)
	if len(list) != 0 || len(part) != 0 {
		t.Errorf("a row of %d numbers and %d bytes were read", len(list), len(part))
	}
	state(t, i, 0, api.ErrShort)
	state(t, j, 3, api.ErrShort)
	if used := after.TotalAlloc - before.TotalAlloc; used > 1<<20 {
		t.Errorf("%d bytes were allocated for three that are there", used)
	}
}

func TestRowsRead(t *testing.T) {
	full := []int{-1, 0, 126, 127, 128, 2147483646, -1}
	for _, c := range []struct {
		b                  []byte
		count, least, most int
		want               []int
		left               int
		err                error
	}{
		{row(), 0, -1, greatest, nil, 0, nil},
		{append(row(), 9), 0, 5, 4, nil, 1, nil},
		{row(), 1, -1, greatest, nil, 0, api.ErrForm},
		{row(), -1, -1, greatest, nil, 0, api.ErrForm},
		{row(full...), 7, -1, 2147483646, full, 0, nil},
		{row(full...), 7, math.MinInt, math.MaxInt, full, 0, nil},
		{append(row(full...), 9), 7, -2, greatest, full, 1, nil},
		{row(full...), 6, -1, greatest, nil, 13, api.ErrForm},
		{row(full...), 8, -1, greatest, nil, 13, api.ErrForm},
		{row(full...), math.MaxInt, -1, greatest, nil, 13, api.ErrForm},
		{row(full...), math.MinInt, -1, greatest, nil, 13, api.ErrForm},
		{row(full...), -7, -1, greatest, nil, 13, api.ErrForm},
		{row(full...), 7, 0, greatest, nil, 12, api.ErrRange},
		{row(full...), 7, -1, 2147483645, nil, 1, api.ErrRange},
		{row(full...), 7, -1, 127, nil, 6, api.ErrRange},
		{row(full...), 7, -1, -1, nil, 11, api.ErrRange},
		{row(full...), 7, -1, -2, nil, 12, api.ErrRange},
		{row(full...), 7, greatest, greatest, nil, 12, api.ErrRange},
		{row(4, 5, 6), 3, 4, 6, []int{4, 5, 6}, 0, nil},
		{row(4, 5, 6), 3, 5, 6, nil, 2, api.ErrRange},
		{row(4, 5, 6), 3, 4, 5, nil, 0, api.ErrRange},
		{row(4, 5, 6), 3, 5, 4, nil, 2, api.ErrRange},
		// A number above 2^31 - 1 is one that Num refuses, so it is still there.
		{[]byte("\x03\x01\x80\x80\x80\x80\x08\x01"), 3, -1, greatest, nil, 6, api.ErrRange},
		{[]byte("\x03\x01\x80\x00\x01\x01"), 3, -1, greatest, nil, 4, api.ErrForm},
		{[]byte("\x03\x01\xff\xff\xff\xff\xff\x01"), 3, -1, greatest, nil, 6, api.ErrForm},
		{[]byte("\x03\x01\x01"), 3, -1, greatest, nil, 0, api.ErrShort},
		{[]byte("\x03\x01\x01\xff\xff"), 3, -1, greatest, nil, 2, api.ErrShort},
		// The first number that is wrong tells the error, even if the bytes end before the row does.
		{[]byte("\x03\x01\x05"), 3, -1, 3, nil, 0, api.ErrRange},
		{[]byte("\x03"), 2, -1, greatest, nil, 0, api.ErrForm},
	} {
		i := Read(c.b)
		got := i.Row(c.count, c.least, c.most)
		if !slices.Equal(got, c.want) {
			t.Errorf("Row(%d, %d, %d) of %x = %v, want %v", c.count, c.least, c.most, c.b, got, c.want)
		}
		state(t, i, c.left, c.err)
	}
}

func TestReaderKeepsItsBytes(t *testing.T) {
	b := []byte("\x05\x02ab\x02cd\x02\x03\x04e")
	arg := roomy(b)
	i := Read(arg)
	scribble(arg[:len(b):len(b)])
	if n := i.Num(9); n != 5 {
		t.Errorf("Num() = %d, want 5: the bytes are the caller's, and were overwritten", n)
	}
	part := i.Bytes(9)
	if string(part) != "ab" {
		t.Errorf("Bytes() = %q, want ab", part)
	}
	scribble(part)
	if s := i.Text(9); s != "cd" {
		t.Errorf("Text() = %q, want cd", s)
	}
	list := i.Row(2, 0, 9)
	if !slices.Equal(list, []int{2, 3}) {
		t.Errorf("Row() = %v, want 2 and 3", list)
	}
	_ = append(list, 7, 7, 7)
	if c := i.Byte(); c != 'e' {
		t.Errorf("Byte() = %q, want e", c)
	}
	state(t, i, 0, nil)
	scribble(arg[:len(b):len(b)])
	if !unchanged(arg, b) {
		t.Error("the reader wrote to its bytes, or behind them")
	}
}

func TestNothingToRead(t *testing.T) {
	for _, i := range []*In{Read(nil), Read([]byte{}), {}} {
		state(t, i, 0, nil)
		if n := i.Num(greatest); n != 0 {
			t.Errorf("Num() = %d, want 0", n)
		}
		state(t, i, 0, api.ErrShort)
	}
}

func TestFail(t *testing.T) {
	i := Read([]byte("\x01\x01"))
	i.Fail(nil)
	state(t, i, 2, nil)
	if n := i.Num(9); n != 1 {
		t.Errorf("Num() behind Fail(nil) = %d, want 1", n)
	}
	i.Fail(errOwn)
	state(t, i, 1, errOwn)
	i.Fail(nil)
	state(t, i, 1, errOwn)
	i.Fail(api.ErrTag)
	state(t, i, 1, errOwn)
	i.Num(0)
	state(t, i, 1, errOwn)
	i = Read(nil)
	i.Byte()
	i.Fail(errOwn)
	state(t, i, 0, api.ErrShort)
}

func TestNothingIsReadBehindAnError(t *testing.T) {
	for _, first := range []func(i *In){
		func(i *In) { i.Fail(errOwn) },
		func(i *In) { i.Num(0) },
		func(i *In) { i.Bytes(0) },
		func(i *In) { i.Text(0) },
		func(i *In) { i.Row(0, -1, 9) },
		func(i *In) { i.Row(1, 5, 9) },
	} {
		i := Read([]byte("\x01\x01\x01\x01"))
		first(i)
		left, err := i.Left(), i.Err()
		if err == nil {
			t.Fatal("the first call did not fail")
		}
		for range 2 {
			n, c, part, s, list := i.Num(9), i.Byte(), i.Bytes(9), i.Text(9), i.Row(1, -1, 9)
			if n != 0 || c != 0 || len(part) != 0 || s != "" || len(list) != 0 {
				t.Errorf("behind an error: %d, %d, %x, %q, %v, want zero values", n, c, part, s, list)
			}
			state(t, i, left, err)
		}
	}
}

func TestEndIsNoError(t *testing.T) {
	i := Read([]byte("\x01\x02"))
	for want := 1; want <= 2; want++ {
		if err := i.End(); !errors.Is(err, api.ErrLong) {
			t.Errorf("End() = %v, want %v", err, api.ErrLong)
		}
		if n := i.Num(9); n != want {
			t.Errorf("Num() behind End = %d, want %d", n, want)
		}
	}
	if err := i.End(); err != nil {
		t.Errorf("End() = %v, want nil", err)
	}
}
