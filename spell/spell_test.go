package spell

import (
	"bytes"
	"errors"
	"fmt"
	"math"
	"slices"
	"strings"
	"testing"

	"doffer/api"
)

// The characters that the chapter excludes, in the order in which it names them.
const (
	excludedOutside = "|*+?()[]{}.\\/"
	excludedInside  = "[]^-\\/"
)

// notation is how a byte is written, as the chapter words it.
func notation(c byte, excluded string) string {
	if c >= 33 && c <= 126 && !bytes.Contains([]byte(excluded), []byte{c}) {
		return string([]byte{c})
	}
	switch {
	case c == 10:
		return "\\n"
	case c == 9:
		return "\\t"
	case c == 13:
		return "\\r"
	case c == 32:
		return "\\s"
	case bytes.Contains([]byte(excluded), []byte{c}):
		return "\\" + string([]byte{c})
	}
	return fmt.Sprintf("\\x%02x", c)
}

// readings are all texts that are read as one byte, with that byte.
func readings() map[string]byte {
	all := map[string]byte{"\\n": 10, "\\t": 9, "\\r": 13, "\\s": 32}
	for n := range 256 {
		c := byte(n)
		if c != '\\' {
			all[string([]byte{c})] = c
		}
		if c >= 33 && c <= 47 || c >= 58 && c <= 64 || c >= 91 && c <= 96 || c >= 123 && c <= 126 {
			all["\\"+string([]byte{c})] = c
		}
		high, low := fmt.Sprintf("%x", n/16), fmt.Sprintf("%x", n%16)
		for _, h := range []string{high, strings.ToUpper(high)} {
			for _, l := range []string{low, strings.ToUpper(low)} {
				all["\\x"+h+l] = c
			}
		}
	}
	return all
}

// model reads as plainly as it can be told.
type model struct {
	all    map[string]byte
	starts map[string]bool // what a notation can begin with
}

func newModel() model {
	m := model{readings(), map[string]bool{}}
	for text := range m.all {
		for n := range len(text) + 1 {
			m.starts[text[:n]] = true
		}
	}
	return m
}

func (m model) read(s string, at int) (byte, int, error) {
	if at < 0 || at >= len(s) {
		return 0, len(s), api.ErrShort
	}
	for end := at + 1; end <= len(s); end++ {
		if c, ok := m.all[s[at:end]]; ok {
			return c, end, nil
		}
		if !m.starts[s[at:end]] {
			return 0, end - 1, api.ErrForm
		}
	}
	return 0, len(s), api.ErrShort
}

func (m model) bytes(s string) ([]byte, int, error) {
	var b []byte
	at := 0
	for at < len(s) {
		c, next, err := m.read(s, at)
		if err != nil {
			return nil, next, err
		}
		b = append(b, c)
		at = next
	}
	return b, at, nil
}

// same tells whether an error is the one that is wanted, nil included.
func same(err, want error) bool {
	if want == nil {
		return err == nil
	}
	return errors.Is(err, want)
}

// reads checks what Read makes of a text.
func reads(t *testing.T, s string, at int, c byte, next int, err error) {
	t.Helper()
	gotC, gotNext, gotErr := Read(s, at)
	if gotC != c || gotNext != next || !same(gotErr, err) {
		t.Fatalf("Read(%q, %d) = %d, %d, %v, want %d, %d, %v", s, at, gotC, gotNext, gotErr, c, next, err)
	}
}

// denotes checks what Bytes makes of a text.
func denotes(t *testing.T, s string, b []byte, at int, err error) {
	t.Helper()
	gotB, gotAt, gotErr := Bytes(s)
	if !bytes.Equal(gotB, b) || gotAt != at || !same(gotErr, err) {
		t.Fatalf("Bytes(%q) = %q, %d, %v, want %q, %d, %v", s, gotB, gotAt, gotErr, b, at, err)
	}
}

// modelled checks what Bytes makes of a text, and Read at every index and out of bounds.
func (m model) modelled(t *testing.T, s string) {
	t.Helper()
	b, end, err := m.bytes(s)
	denotes(t, s, b, end, err)
	for at := -2; at <= len(s)+2; at++ {
		c, next, err := m.read(s, at)
		reads(t, s, at, c, next, err)
	}
}

func TestChapterExamples(t *testing.T) {
	if got := Plain(10); got != "\\n" {
		t.Errorf("Plain(10) = %q, want \\n", got)
	}
	reads(t, "\\x4a", 0, 74, 4, nil)
}

func TestEveryByteIsWritten(t *testing.T) {
	for n := range 256 {
		c := byte(n)
		if got, want := Plain(c), notation(c, excludedOutside); got != want {
			t.Errorf("Plain(%d) = %q, want %q", c, got, want)
		}
		if got, want := Inner(c), notation(c, excludedInside); got != want {
			t.Errorf("Inner(%d) = %q, want %q", c, got, want)
		}
	}
}

func TestEdgesWritten(t *testing.T) {
	for _, c := range []struct {
		c            byte
		plain, inner string
	}{
		{0, `\x00`, `\x00`}, {1, `\x01`, `\x01`}, {8, `\x08`, `\x08`},
		{9, `\t`, `\t`}, {10, `\n`, `\n`}, {11, `\x0b`, `\x0b`}, {12, `\x0c`, `\x0c`}, {13, `\r`, `\r`}, {14, `\x0e`, `\x0e`},
		{31, `\x1f`, `\x1f`}, {32, `\s`, `\s`}, {33, `!`, `!`}, {126, `~`, `~`}, {127, `\x7f`, `\x7f`},
		{128, `\x80`, `\x80`}, {0xa9, `\xa9`, `\xa9`}, {0xfa, `\xfa`, `\xfa`}, {255, `\xff`, `\xff`},
		{'|', `\|`, `|`}, {'*', `\*`, `*`}, {'+', `\+`, `+`}, {'?', `\?`, `?`}, {'(', `\(`, `(`}, {')', `\)`, `)`},
		{'{', `\{`, `{`}, {'}', `\}`, `}`}, {'.', `\.`, `.`},
		{'[', `\[`, `\[`}, {']', `\]`, `\]`}, {'\\', `\\`, `\\`}, {'/', `\/`, `\/`},
		{'^', `^`, `\^`}, {'-', `-`, `\-`},
		{';', `;`, `;`}, {':', `:`, `:`}, {'<', `<`, `<`}, {'"', `"`, `"`}, {'$', `$`, `$`}, {',', `,`, `,`}, {'\'', `'`, `'`}, {'`', "`", "`"},
		{'n', `n`, `n`}, {'t', `t`, `t`}, {'r', `r`, `r`}, {'s', `s`, `s`}, {'x', `x`, `x`}, {'0', `0`, `0`}, {'a', `a`, `a`}, {'Z', `Z`, `Z`},
	} {
		if got := Plain(c.c); got != c.plain {
			t.Errorf("Plain(%d) = %q, want %q", c.c, got, c.plain)
		}
		if got := Inner(c.c); got != c.inner {
			t.Errorf("Inner(%d) = %q, want %q", c.c, got, c.inner)
		}
	}
}

func TestSpecial(t *testing.T) {
	for n := range 256 {
		c := byte(n)
		want := slices.Contains([]byte("|*+?()[]{}.\\/"), c)
		if got := Special(c); got != want {
			t.Errorf("Special(%d) = %t, want %t", c, got, want)
		}
		if itself := Plain(c) == string([]byte{c}); c >= 33 && c <= 126 && itself == Special(c) {
			t.Errorf("Special(%d) = %t, but Plain is %q", c, Special(c), Plain(c))
		}
	}
}

func TestWhatIsWrittenIsReadWhateverIsAround(t *testing.T) {
	heads := []string{"", "a", "\\", "\\x", "\\x4", "[^", "\xff\x00", "\\n"}
	tails := []string{"", "\\", "\\x", "\\x4", "41", "x41", "é", "abc"}
	for n := range 256 {
		tails = append(tails, string([]byte{byte(n)}))
	}
	for n := range 256 {
		c := byte(n)
		for _, written := range []string{Plain(c), Inner(c)} {
			for _, head := range heads {
				for _, tail := range tails {
					reads(t, head+written+tail, len(head), c, len(head)+len(written), nil)
				}
			}
		}
	}
}

func TestBackslashAheadOfEveryByte(t *testing.T) {
	want := map[byte]byte{'n': 10, 't': 9, 'r': 13, 's': 32}
	for _, c := range []byte("!\"#$%&'()*+,-./:;<=>?@[\\]^_`{|}~") {
		want[c] = c
	}
	for n := range 256 {
		c := byte(n)
		for _, head := range []string{"", "a", "\\\\"} {
			s, at := head+"\\"+string([]byte{c}), len(head)
			for _, text := range []string{s, s + "!", s + "\\"} {
				if to, ok := want[c]; ok {
					reads(t, text, at, to, at+2, nil)
				} else if c != 'x' {
					reads(t, text, at, 0, at+1, api.ErrForm)
				}
			}
		}
	}
}

func TestEveryByteAloneStandsForItself(t *testing.T) {
	for n := range 256 {
		c := byte(n)
		if c == '\\' {
			continue
		}
		s := string([]byte{c})
		reads(t, s, 0, c, 1, nil)
		reads(t, s+s, 0, c, 1, nil)
		reads(t, "\\"+s+s, 2, c, 3, nil)
		denotes(t, s+s+s, []byte{c, c, c}, 3, nil)
	}
}

func TestHexadecimalDigits(t *testing.T) {
	all := "0123456789abcdefABCDEF"
	value := func(k int) int {
		if k < 16 {
			return k
		}
		return k - 6
	}
	for h := range all {
		for l := range all {
			s := "\\x" + all[h:h+1] + all[l:l+1]
			c := byte(value(h)*16 + value(l))
			reads(t, s, 0, c, 4, nil)
			reads(t, s+"0", 0, c, 4, nil)
			reads(t, "x"+s+"\\", 1, c, 5, nil)
		}
	}
	for n := range 256 {
		c := string([]byte{byte(n)})
		if strings.Contains(all, c) {
			continue
		}
		reads(t, "\\x"+c, 0, 0, 2, api.ErrForm)
		reads(t, "\\x"+c+"4", 0, 0, 2, api.ErrForm)
		reads(t, "\\x4"+c, 0, 0, 3, api.ErrForm)
		reads(t, "ab\\xF"+c+"4", 2, 0, 5, api.ErrForm)
	}
}

func TestOfTwoErrorsTheFirst(t *testing.T) {
	for _, c := range []struct {
		s  string
		at int
	}{
		{"\\xgg", 2},
		{"\\xg", 2},
		{"\\xg\\", 2},
		{"\\x\\", 2},
		{"\\x\\x", 2},
		{"\\x\\x41", 2},
		{"\\xx4", 2},
		{"\\x 4", 2},
		{"\\x4\\", 3},
		{"\\x4g", 3},
		{"\\x4 ", 3},
		{"\\X4a", 1},
		{"\\Xg", 1},
		{"\\g\\", 1},
		{"\\ \\xg", 1},
		{"\\4\\4", 1},
		{"\\\n", 1},
		{"\\\x7f", 1},
		{"\\\x80", 1},
		{"\\é", 1},
		{"\\N", 1},
	} {
		reads(t, c.s, 0, 0, c.at, api.ErrForm)
		denotes(t, c.s, nil, c.at, api.ErrForm)
		reads(t, "\\\\é"+c.s, 4, 0, 4+c.at, api.ErrForm)
		denotes(t, "\\\\é"+c.s, nil, 4+c.at, api.ErrForm)
		denotes(t, c.s+"\\", nil, c.at, api.ErrForm)
	}
}

func TestTextsThatEnd(t *testing.T) {
	for _, s := range []string{"\\", "\\x", "\\x0", "\\x4", "\\xf", "\\xF"} {
		for _, head := range []string{"", "a", "\\\\", "\\x41", "\xff"} {
			reads(t, head+s, len(head), 0, len(head+s), api.ErrShort)
			denotes(t, head+s, nil, len(head+s), api.ErrShort)
		}
	}
}

func TestIndexesThatAreNone(t *testing.T) {
	for _, s := range []string{"", "a", "\\", "\\n", "\\x4a", "abc\\xg", "é"} {
		for _, at := range []int{math.MinInt, math.MinInt + 1, -1 << 32, -1 << 31, -2, -1, len(s), len(s) + 1, 1 << 31, 1 << 32, math.MaxInt - 1, math.MaxInt} {
			reads(t, s, at, 0, len(s), api.ErrShort)
		}
	}
}

func TestEveryIndex(t *testing.T) {
	s := "a\\x4a\\\\\\n;"
	reads(t, s, 0, 'a', 1, nil)
	reads(t, s, 1, 'J', 5, nil)
	reads(t, s, 2, 'x', 3, nil)
	reads(t, s, 3, '4', 4, nil)
	reads(t, s, 4, 'a', 5, nil)
	reads(t, s, 5, '\\', 7, nil)
	reads(t, s, 6, '\\', 8, nil)
	reads(t, s, 7, '\n', 9, nil)
	reads(t, s, 8, 'n', 9, nil)
	reads(t, s, 9, ';', 10, nil)
	reads(t, s, 10, 0, 10, api.ErrShort)
}

func TestText(t *testing.T) {
	for _, c := range []struct{ b, want string }{
		{"", ""},
		{"a", "a"},
		{"a b\n", `a\sb\n`},
		{"[a-z^]*;", `\[a-z^\]\*;`},
		{"\\n", `\\n`},
		{"\x00\xff41", `\x00\xff41`},
		{"1.5/2", `1\.5\/2`},
		{"é", `\xc3\xa9`},
	} {
		if got := Text([]byte(c.b)); got != c.want {
			t.Errorf("Text(%q) = %q, want %q", c.b, got, c.want)
		}
		denotes(t, c.want, []byte(c.b), len(c.want), nil)
	}
	if got := Text(nil); got != "" {
		t.Errorf("Text(nil) = %q, want nothing", got)
	}
}

func TestBytes(t *testing.T) {
	for _, c := range []struct {
		s, want string
		at      int
		err     error
	}{
		{"", "", 0, nil},
		{"a;b", "a;b", 3, nil},
		{"a b\n*", "a b\n*", 5, nil},
		{"\\s\\t\\r\\n", " \t\r\n", 8, nil},
		{"\\x41\\x4Ax", "AJx", 9, nil},
		{"\\xFf\\x0D", "\xff\r", 8, nil},
		{"\\\\n", "\\n", 3, nil},
		{"é\xff\x00", "é\xff\x00", 4, nil},
		{"\\-\\~\\@", "-~@", 6, nil},
		{"ab\\", "", 3, api.ErrShort},
		{"ab\\q\\", "", 3, api.ErrForm},
		{"ab\\x1", "", 5, api.ErrShort},
		{"\\x41\\x1z", "", 7, api.ErrForm},
		{"\\\\\\x", "", 4, api.ErrShort},
	} {
		denotes(t, c.s, []byte(c.want), c.at, c.err)
	}
}

// draws is a row of numbers that look random and are the same each time.
type draws uint32

func (d *draws) below(n int) int {
	*d = *d*1664525 + 1013904223
	return int(uint64(*d) * uint64(n) >> 32)
}

func TestManyBytesAreWrittenAndReadBack(t *testing.T) {
	tricky := "\\xn4a]^-/;~\x7f "
	for seed := range 300 {
		d := draws(seed)
		b := make([]byte, d.below(500))
		var plain, inner strings.Builder
		for k := range b {
			b[k] = byte(d.below(256))
			if d.below(3) == 0 {
				b[k] = tricky[d.below(len(tricky))]
			}
			plain.WriteString(notation(b[k], excludedOutside))
			inner.WriteString(notation(b[k], excludedInside))
		}
		if got := Text(b); got != plain.String() {
			t.Fatalf("Text(%q) = %q, want %q", b, got, plain.String())
		}
		denotes(t, plain.String(), b, plain.Len(), nil)
		denotes(t, inner.String(), b, inner.Len(), nil)
	}
}

func TestEveryPairOfBytesIsWrittenAndReadBack(t *testing.T) {
	for first := range 256 {
		for second := range 256 {
			b := []byte{byte(first), byte(second)}
			s := Text(b)
			if want := notation(b[0], excludedOutside) + notation(b[1], excludedOutside); s != want {
				t.Fatalf("Text(%q) = %q, want %q", b, s, want)
			}
			denotes(t, s, b, len(s), nil)
		}
	}
}

func TestALongText(t *testing.T) {
	b := bytes.Repeat([]byte("a\\\x80\n"), 1<<18)
	s := Text(b)
	if want := strings.Repeat("a\\\\\\x80\\n", 1<<18); s != want {
		t.Fatal("a long text is not written as its bytes")
	}
	denotes(t, s, b, len(s), nil)
}

func TestEveryShortText(t *testing.T) {
	m := newModel()
	for first := range 256 {
		m.modelled(t, string([]byte{byte(first)}))
		for second := range 256 {
			pair := string([]byte{byte(first), byte(second)})
			for _, head := range []string{"", "\\", "\\x", "\\x4\\"} {
				m.modelled(t, head+pair)
			}
		}
	}
}

func TestEveryTextOfAFewBytes(t *testing.T) {
	m := newModel()
	alphabet := "\\xn4aFg \x80"
	var longer func(s string)
	longer = func(s string) {
		m.modelled(t, s)
		if len(s) == 5 {
			return
		}
		for k := range len(alphabet) {
			longer(s + alphabet[k:k+1])
		}
	}
	longer("")
}

func TestTextKeepsItsBytes(t *testing.T) {
	all := []byte("a\n\\\x80****")
	was := slices.Clone(all)
	if got := Text(all[:4]); got != `a\n\\\x80` {
		t.Errorf("Text() = %q", got)
	}
	if !bytes.Equal(all, was) {
		t.Errorf("Text wrote to its bytes, or behind them: %q became %q", was, all)
	}
}

func TestWhatIsReturnedBelongsToTheCaller(t *testing.T) {
	for _, s := range []string{"", "abc", "\\x41\\n"} {
		b, at, _ := Bytes(s)
		want := slices.Clone(b)
		other, _, _ := Bytes(s)
		for k := range other[:cap(other)] {
			other[:cap(other)][k] ^= 0x5a
		}
		_ = append(other, 'x')
		if !bytes.Equal(b, want) {
			t.Errorf("what Bytes(%q) returned became %q", s, b)
		}
		denotes(t, s, want, at, nil)
	}
	text := []byte("a\n")
	s := Text(text)
	text[0], text[1] = 'x', 'y'
	if s != "a\\n" {
		t.Errorf("what Text returned became %q", s)
	}
}
