package pack

import (
	"bytes"
	"encoding/binary"
	"math"
	"slices"
	"testing"

	"doffer/api"
)

// reader is a reader as plainly as it can be told: its bytes, how many of them are consumed, and the first error.
type reader struct {
	all []byte
	at  int
	err error
}

func (p *reader) left() []byte { return p.all[p.at:] }

func (p *reader) fail(err error) {
	if p.err == nil {
		p.err = err
	}
}

func (p *reader) end() error {
	if p.err == nil && p.at < len(p.all) {
		return api.ErrLong
	}
	return p.err
}

// num is a number by Go's own library, and whether there is one.
func (p *reader) num(most int) (int, bool) {
	if p.err != nil {
		return 0, false
	}
	b := p.left()
	u, size := binary.Uvarint(b[:min(len(b), 5)])
	switch {
	case size <= 0 && len(b) < 5:
		p.err = api.ErrShort
	case size <= 0 || !bytes.Equal(b[:size], binary.AppendUvarint(nil, u)):
		p.err = api.ErrForm
	case u > greatest || int(u) > most:
		p.err = api.ErrRange
	default:
		p.at += size
		return int(u), true
	}
	return 0, false
}

func (p *reader) one() byte {
	if p.err == nil && p.at == len(p.all) {
		p.err = api.ErrShort
	}
	if p.err != nil {
		return 0
	}
	p.at++
	return p.all[p.at-1]
}

func (p *reader) counted(most int) []byte {
	n, ok := p.num(greatest)
	if !ok {
		return nil
	}
	if n > most {
		p.err = api.ErrLong
		return nil
	}
	if n > len(p.left()) {
		p.err = api.ErrShort
		return nil
	}
	p.at += n
	return p.all[p.at-n : p.at]
}

func (p *reader) row(count, least, most int) []int {
	n, ok := p.num(greatest)
	if !ok {
		return nil
	}
	if n != count {
		p.err = api.ErrForm
		return nil
	}
	var list []int
	for len(list) < count {
		more, ok := p.num(greatest)
		if !ok {
			return nil
		}
		if more-1 < least || more-1 > most {
			p.err = api.ErrRange
			return nil
		}
		list = append(list, more-1)
	}
	return list
}

// two are a reader and its model.
type two struct {
	t *testing.T
	i *In
	p *reader
}

func (w two) num(most int) {
	want, _ := w.p.num(most)
	if got := w.i.Num(most); got != want {
		w.t.Fatalf("Num(%d) of %x from %d = %d, want %d", most, w.p.all, w.p.at, got, want)
	}
}

func (w two) one() {
	want := w.p.one()
	if got := w.i.Byte(); got != want {
		w.t.Fatalf("Byte() of %x = %d, want %d", w.p.all, got, want)
	}
}

func (w two) bytes(most int) {
	want := w.p.counted(most)
	if got := w.i.Bytes(most); !bytes.Equal(got, want) {
		w.t.Fatalf("Bytes(%d) of %x = %x, want %x", most, w.p.all, got, want)
	}
}

func (w two) text(most int) {
	want := w.p.counted(most)
	if got := w.i.Text(most); got != string(want) {
		w.t.Fatalf("Text(%d) of %x = %x, want %x", most, w.p.all, got, want)
	}
}

func (w two) row(count, least, most int) {
	want := w.p.row(count, least, most)
	if got := w.i.Row(count, least, most); !slices.Equal(got, want) {
		w.t.Fatalf("Row(%d, %d, %d) of %x = %v, want %v", count, least, most, w.p.all, got, want)
	}
}

func (w two) fail(err error) {
	w.i.Fail(err)
	if err != nil {
		w.p.fail(err)
	}
}

// reads are the calls that the sequences are made of.
var reads = []func(w two){
	func(w two) { w.num(greatest) },
	func(w two) { w.num(1) },
	func(w two) { w.num(-1) },
	func(w two) { w.one() },
	func(w two) { w.bytes(greatest) },
	func(w two) { w.bytes(1) },
	func(w two) { w.text(2) },
	func(w two) { w.text(0) },
	func(w two) { w.row(0, -1, greatest) },
	func(w two) { w.row(1, -1, greatest) },
	func(w two) { w.row(2, 0, 1) },
	func(w two) { w.fail(nil) },
	func(w two) { w.fail(errOwn) },
}

// each calls f with every list of up to most numbers that are less than kinds.
func each(kinds, most int, f func(list []int)) {
	var longer func(list []int)
	longer = func(list []int) {
		f(list)
		if len(list) == most {
			return
		}
		for kind := range kinds {
			longer(append(slices.Clone(list), kind))
		}
	}
	longer(nil)
}

func TestEveryOrderOfReads(t *testing.T) {
	for _, text := range []string{
		"",
		"\x00",
		"\x01",
		"\x80",
		"\x00\x00\x00",
		"\x01\x00\x01\x02\x03",
		"\x01\x01\x01\x01\x01\x01",
		"\x02\x01\x02\x02ab\x01",
		"\x02\x00\x05\x01\x80\x00",
		"\x01\x80\x01\x02",
		"\x02\x80\x80\x80\x80\x08",
		"\x01\x02\xff\xff\xff\xff\xff\x00",
		"\x01\xff\xff\xff\xff\x07\x01",
		"\xac\x02\x02ab",
	} {
		each(len(reads), 3, func(list []int) {
			w := two{t, Read([]byte(text)), &reader{all: []byte(text)}}
			state(t, w.i, len(text), nil)
			for _, kind := range list {
				reads[kind](w)
				state(t, w.i, len(w.p.left()), w.p.err)
				if got := w.i.End(); !same(got, w.p.end()) {
					t.Fatalf("End() of %x = %v, want %v", text, got, w.p.end())
				}
			}
		})
	}
}

func TestEveryShortText(t *testing.T) {
	alphabet := []byte{0, 1, 2, 7, 8, 0x7f, 0x80, 0x81, 0xff}
	each(len(alphabet), 6, func(list []int) {
		b := make([]byte, len(list))
		for k, kind := range list {
			b[k] = alphabet[kind]
		}
		for _, read := range []func(w two){
			func(w two) { w.num(greatest) },
			func(w two) { w.num(129) },
			func(w two) { w.bytes(2) },
			func(w two) { w.row(2, 0, 300) },
		} {
			w := two{t, Read(b), &reader{all: b}}
			read(w)
			state(t, w.i, len(w.p.left()), w.p.err)
		}
	})
}

// writer is a writer as plainly as it can be told: what is written, and whether it failed.
type writer struct {
	all    []byte
	failed bool
}

func (p *writer) add(n, most int) {
	if n < 0 || n > most {
		p.failed = true
	} else {
		p.all = binary.AppendUvarint(p.all, uint64(n))
	}
}

func (p *writer) row(list []int) {
	p.add(len(list), greatest)
	for _, n := range list {
		// Apart from Num, so that the bounds of a row are told once more.
		if n < -1 || n > greatest-1 {
			p.failed = true
			return
		}
		p.add(n+1, greatest)
	}
}

// writes are the calls that the sequences are made of.
var writes = []func(o *Out, p *writer){
	func(o *Out, p *writer) { o.Num(0); p.add(0, greatest) },
	func(o *Out, p *writer) { o.Num(300); p.add(300, greatest) },
	func(o *Out, p *writer) { o.Num(greatest); p.add(greatest, greatest) },
	func(o *Out, p *writer) { o.Num(greatest + 1); p.add(greatest+1, greatest) },
	func(o *Out, p *writer) { o.Num(-1); p.add(-1, greatest) },
	func(o *Out, p *writer) { o.Byte(0xff); p.all = append(p.all, 0xff) },
	func(o *Out, p *writer) { o.Bytes(nil); p.all = append(p.all, 0) },
	func(o *Out, p *writer) { o.Bytes([]byte{7, 0}); p.all = append(p.all, 2, 7, 0) },
	func(o *Out, p *writer) { o.Text(""); p.all = append(p.all, 0) },
	func(o *Out, p *writer) { o.Text("abc"); p.all = append(p.all, 3, 'a', 'b', 'c') },
	func(o *Out, p *writer) { o.Row(nil); p.row(nil) },
	func(o *Out, p *writer) { o.Row([]int{-1, greatest - 1}); p.row([]int{-1, greatest - 1}) },
	func(o *Out, p *writer) { o.Row([]int{4, -2, 5}); p.row([]int{4, -2, 5}) },
	func(o *Out, p *writer) { o.Row([]int{greatest}); p.row([]int{greatest}) },
	func(o *Out, p *writer) { o.Row([]int{math.MaxInt}); p.row([]int{math.MaxInt}) },
}

func TestEveryOrderOfWrites(t *testing.T) {
	each(len(writes), 4, func(list []int) {
		var o Out
		var p writer
		for _, kind := range list {
			writes[kind](&o, &p)
			if p.failed {
				refused(t, &o)
			} else {
				done(t, &o, p.all)
			}
		}
	})
}

func TestEveryNumberHasOneEncoding(t *testing.T) {
	list := edges()
	for n := range 70000 {
		list = append(list, n)
	}
	for n := 70000; n < greatest; n += n/1000 + 1 {
		list = append(list, n)
	}
	for _, n := range list {
		var o Out
		o.Num(n)
		b, err := o.Done()
		if err != nil {
			t.Fatalf("Num(%d) is refused: %v", n, err)
		}
		i := Read(b)
		if got := i.Num(n); got != n {
			t.Fatalf("%d was written as %x, which is read as %d", n, b, got)
		}
		state(t, i, 0, nil)
		longer := slices.Clone(b)
		longer[len(b)-1] |= 128
		longer = append(longer, 0)
		if got := Read(longer).Num(greatest); got != 0 {
			t.Fatalf("%x is a second encoding of %d", longer, got)
		}
	}
}

func TestWhatIsANumberIsItsEncoding(t *testing.T) {
	for first := range 256 {
		for second := range 256 {
			for _, rest := range []string{"", "\x00", "\x01", "\x80\x00", "\x80\x01", "\xff\xff\x07", "\xff\xff\x08", "\x80\x80\x00"} {
				b := append([]byte{byte(first), byte(second)}, rest...)
				i := Read(b)
				n := i.Num(greatest)
				if i.Err() != nil {
					continue
				}
				if size := len(b) - i.Left(); !bytes.Equal(b[:size], number(n)) {
					t.Fatalf("%x is read as %d, whose encoding is %x", b[:size], n, number(n))
				}
			}
		}
	}
}

// draws is a row of numbers that look random and are the same each time.
type draws uint32

func (d *draws) below(n int) int {
	*d = *d*1664525 + 1013904223
	return int(uint64(*d) * uint64(n) >> 32)
}

// pair writes a value, and tells how to read it back.
func pair(d *draws, o *Out) func(t *testing.T, i *In) {
	n := d.below(1 << (1 + d.below(31)))
	switch d.below(5) {
	case 0:
		o.Num(n)
		return func(t *testing.T, i *In) { equal(t, i.Num(n), n) }
	case 1:
		c := byte(n)
		o.Byte(c)
		return func(t *testing.T, i *In) { equal(t, i.Byte(), c) }
	case 2:
		b := bytes.Repeat([]byte{byte(n), 0, 0x80}, n%100)
		o.Bytes(b)
		return func(t *testing.T, i *In) { equal(t, string(i.Bytes(len(b))), string(b)) }
	case 3:
		s := string(number(n)) + "\x00é"
		o.Text(s)
		return func(t *testing.T, i *In) { equal(t, i.Text(len(s)+d.below(3)), s) }
	default:
		list := make([]int, n%200)
		least, most := -1, -1
		for k := range list {
			list[k] = d.below(1<<(1+d.below(31))) - 1
			most = max(most, list[k])
		}
		if len(list) > 0 {
			least = slices.Min(list)
		}
		o.Row(list)
		return func(t *testing.T, i *In) {
			if got := i.Row(len(list), least, most); !slices.Equal(got, list) {
				t.Fatalf("Row() = %v, want %v", got, list)
			}
		}
	}
}

func equal[T comparable](t *testing.T, got, want T) {
	t.Helper()
	if got != want {
		t.Fatalf("%v was read, want %v", got, want)
	}
}

func TestManyInARowAreReadBack(t *testing.T) {
	for seed := range 200 {
		d := draws(seed)
		var o Out
		var backs []func(t *testing.T, i *In)
		for range d.below(60) {
			backs = append(backs, pair(&d, &o))
		}
		b, err := o.Done()
		if err != nil {
			t.Fatalf("Done() = %v", err)
		}
		i := Read(b)
		for _, back := range backs {
			back(t, i)
			if err := i.Err(); err != nil {
				t.Fatalf("Err() = %v", err)
			}
		}
		state(t, i, 0, nil)
	}
}

func TestTextsThatLookRandom(t *testing.T) {
	for seed := range 3000 {
		d := draws(seed)
		b := make([]byte, d.below(40))
		for k := range b {
			b[k] = byte(d.below(256))
			if d.below(2) == 0 {
				b[k] %= 4
			}
		}
		w := two{t, Read(b), &reader{all: b}}
		for range 20 {
			reads[d.below(len(reads)-1)](w)
			state(t, w.i, len(w.p.left()), w.p.err)
		}
	}
}
