package brackets

import (
	"errors"
	"fmt"
	"math"
	"slices"
	"strconv"
	"strings"
	"testing"

	"doffer/api"
	"doffer/sets"
)

// model is a set as plainly as it can be told: which of the bytes are in it.
type model [256]bool

func (m model) set() sets.Set {
	var s sets.Set
	for c, in := range m {
		if in {
			s[c/64] |= 1 << (c % 64)
		}
	}
	return s
}

func (m model) not() model {
	for c := range m {
		m[c] = !m[c]
	}
	return m
}

func (m model) len() int {
	n := 0
	for _, in := range m {
		if in {
			n++
		}
	}
	return n
}

// with is the bytes of a string, beside those that are in it already.
func (m model) with(bytes string) model {
	for k := range len(bytes) {
		m[bytes[k]] = true
	}
	return m
}

// span is the bytes from one to another, beside those that are in it already.
func (m model) span(lo, hi int) model {
	for c := lo; c <= hi; c++ {
		m[c] = true
	}
	return m
}

// notation is how a byte is written in brackets, as chapter 5 words it.
func notation(c int) string {
	switch {
	case c == 10:
		return "\\n"
	case c == 9:
		return "\\t"
	case c == 13:
		return "\\r"
	case c == 32:
		return "\\s"
	case strings.Contains("[]^-\\/", string(rune(c))):
		return "\\" + string(rune(c))
	case c >= 33 && c <= 126:
		return string(rune(c))
	}
	return fmt.Sprintf("\\x%02x", c)
}

// text is the set's text, as the chapter words it.
func (m model) text() string {
	n := m.len()
	switch {
	case n == 0:
		return "[^\\x00-\\xff]"
	case n >= 129 && n <= 255:
		return "[^" + m.not().items() + "]"
	}
	return "[" + m.items() + "]"
}

func (m model) items() string {
	all := ""
	for lo := 0; lo < 256; lo++ {
		if !m[lo] {
			continue
		}
		hi := lo
		for hi < 255 && m[hi+1] {
			hi++
		}
		all += notation(lo)
		if hi > lo+1 {
			all += "-"
		}
		if hi > lo {
			all += notation(hi)
		}
		lo = hi
	}
	return all
}

// The places within an expression, each with what may come next.
const (
	atStart     = iota // the [
	atCaret            // directly behind it
	atItem             // an item, or the ] behind the last one
	atHyphen           // behind an item's first byte
	atSecond           // behind the hyphen
	atBackslash        // behind a backslash
	atHigh             // behind \x
	atLow              // behind the high half
)

// reader is a model of Read: it takes one byte of the string after the other, whereas Read asks for items.
type reader struct {
	place, began int // began is where the byte that is being read begins
	some, not    bool
	ranged       bool // the byte that is being read is a range's second one
	first, half  int
	all          model
	done         bool
}

// take takes the byte at an index; with an error it returns the error's index as well.
func (r *reader) take(c byte, at int) (int, error) {
	switch r.place {
	case atStart:
		if c != '[' {
			return at, api.ErrForm
		}
		r.place = atCaret
		return 0, nil
	case atCaret:
		r.place = atItem
		if c == '^' {
			r.not = true
			return 0, nil
		}
	case atHyphen:
		if c == '-' {
			r.place = atSecond
			return 0, nil
		}
		r.all[r.first] = true
		r.place = atItem
	}
	if r.place == atItem || r.place == atSecond {
		return r.begin(c, at)
	}
	return r.within(c, at)
}

// begin takes a byte with which a notation begins, or the expression ends.
func (r *reader) begin(c byte, at int) (int, error) {
	if c == ']' && r.place == atItem && r.some {
		r.done = true
		return 0, nil
	}
	if c == '[' || c == ']' || c == '-' || c == '/' {
		return at, api.ErrForm
	}
	r.some, r.began, r.ranged = true, at, r.place == atSecond
	if c == '\\' {
		r.place = atBackslash
		return 0, nil
	}
	return r.byte(int(c))
}

// within takes a byte behind a backslash.
func (r *reader) within(c byte, at int) (int, error) {
	if r.place == atBackslash {
		if k := strings.Index("ntrs", string(rune(c))); k >= 0 {
			return r.byte([]int{10, 9, 13, 32}[k])
		}
		letter := c >= 'a' && c <= 'z' || c >= 'A' && c <= 'Z'
		digit := c >= '0' && c <= '9'
		switch {
		case c == 'x':
			r.place = atHigh
			return 0, nil
		case c < 33 || c > 126 || letter || digit:
			return at, api.ErrForm
		}
		return r.byte(int(c))
	}
	value, err := strconv.ParseUint(string([]byte{c}), 16, 8)
	if err != nil {
		return at, api.ErrForm
	}
	if r.place == atHigh {
		r.half, r.place = int(value), atLow
		return 0, nil
	}
	return r.byte(r.half*16 + int(value))
}

// byte takes a byte that was read whole.
func (r *reader) byte(c int) (int, error) {
	if !r.ranged {
		r.first, r.place = c, atHyphen
		return 0, nil
	}
	if c < r.first {
		return r.began, api.ErrRange
	}
	r.all = r.all.span(r.first, c)
	r.place = atItem
	return 0, nil
}

// want is what Read returns by the model.
func want(s string, at int) (sets.Set, int, error) {
	var r reader
	if at < 0 {
		at = len(s)
	}
	for ; at < len(s); at++ {
		if place, err := r.take(s[at], at); err != nil {
			return sets.Set{}, place, err
		}
		if r.done && r.not {
			return r.all.not().set(), at + 1, nil
		}
		if r.done {
			return r.all.set(), at + 1, nil
		}
	}
	return sets.Set{}, len(s), api.ErrShort
}

// same tells whether an error is the one that is wanted, nil included.
func same(err, want error) bool {
	if want == nil {
		return err == nil
	}
	return errors.Is(err, want)
}

// reads checks what Read makes of a string at an index.
func reads(t *testing.T, s string, at int, set sets.Set, next int, err error) {
	t.Helper()
	gotSet, gotNext, gotErr := Read(s, at)
	if gotSet != set || gotNext != next || !same(gotErr, err) {
		t.Fatalf("Read(%q, %d) = %x, %d, %v, want %x, %d, %v", s, at, gotSet, gotNext, gotErr, set, next, err)
	}
}

// everywhere checks a whole expression by itself, and with other bytes ahead of it and behind it.
func everywhere(t *testing.T, s string, m model) {
	t.Helper()
	for _, head := range []string{"", "[", "\\", "[^", "é\xff\x00", "[a]"} {
		for _, tail := range []string{"", "]", "-", "-z]", "^", "[", "/", "\\", "\x00\xff", "*|a"} {
			reads(t, head+s+tail, len(head), m.set(), len(head)+len(s), nil)
		}
	}
}

// fails checks an error and its index in an expression by itself, and with other bytes ahead of it.
func fails(t *testing.T, s string, at int, err error) {
	t.Helper()
	for _, head := range []string{"", "[", "\\", "[^", "é\xff\x00", "[a]"} {
		reads(t, head+s, len(head), sets.Set{}, len(head)+at, err)
	}
}

// tells checks an error that ought to be told whatever comes behind it.
func tells(t *testing.T, s string, at int, err error) {
	t.Helper()
	for _, tail := range []string{"", "]", "a]", "-", "[", "\\", "\\x", "4a]", "\x00\xff"} {
		fails(t, s+tail, at, err)
	}
}

// writes checks a set's text, and that it is read as that set whatever is ahead of it and behind it.
func writes(t *testing.T, m model, text string) {
	t.Helper()
	if got := Text(m.set()); got != text {
		t.Fatalf("Text(%x) = %q, want %q", m.set(), got, text)
	}
	for _, around := range [][2]string{{"", ""}, {"[", "]"}, {"\\", "-"}, {"a[^", "^\\"}} {
		reads(t, around[0]+text+around[1], len(around[0]), m.set(), len(around[0])+len(text), nil)
	}
}

func TestChapterExample(t *testing.T) {
	everywhere(t, "[a-c\\n]", model{}.with("abc\n"))
	s, at, err := Read("[a-c\\n]", 0)
	if s.Len() != 4 || at != 7 || err != nil {
		t.Errorf("Read = %x, %d, %v, want four bytes and 7", s, at, err)
	}
	writes(t, model{}.with("abc\n"), "[\\na-c]")
}

func TestOrdinaryTexts(t *testing.T) {
	for _, c := range []struct {
		m    model
		text string
	}{
		{model{}.with("a"), "[a]"},
		{model{}.with("ab"), "[ab]"},
		{model{}.with("ac"), "[ac]"},
		{model{}.with("abc"), "[a-c]"},
		{model{}.with("abd"), "[abd]"},
		{model{}.with("acd"), "[acd]"},
		{model{}.with("ace"), "[ace]"},
		{model{}.with("zabdefyx"), "[abd-fx-z]"},
		{model{}.span('a', 'z').span('A', 'Z').span('0', '9').with("_"), "[0-9A-Z_a-z]"},
		{model{}.with(" \t\r\n"), "[\\t\\n\\r\\s]"},
		{model{}.with("+*?.|(){};"), "[(-+.;?{-}]"},
		{model{}.with("+-*/"), "[*+\\-\\/]"},
		{model{}.with("[\\]^"), "[\\[-\\^]"},
		{model{}.with("-./"), "[\\--\\/]"},
		{model{}.with("^"), "[\\^]"},
		{model{}.with("\\"), "[\\\\]"},
		{model{}.span('0', '9').not(), "[^0-9]"},
		{model{}.with("\"\\\n").not(), "[^\\n\"\\\\]"},
		{model{}.with("]^").not(), "[^\\]\\^]"},
		{model{}.with("^").not(), "[^\\^]"},
		{model{}.with("\xc3\xa9"), "[\\xa9\\xc3]"},
		{model{}.span(128, 255), "[\\x80-\\xff]"},
	} {
		writes(t, c.m, c.text)
	}
}

func TestTextsAtTheEdges(t *testing.T) {
	for _, c := range []struct {
		n    int
		m    model
		text string
	}{
		{0, model{}, "[^\\x00-\\xff]"},
		{256, model{}.not(), "[\\x00-\\xff]"},
		{127, model{}.span(0, 126), "[\\x00-~]"},
		{128, model{}.span(0, 127), "[\\x00-\\x7f]"},
		{129, model{}.span(0, 128), "[^\\x81-\\xff]"},
		{128, model{}.span(128, 255), "[\\x80-\\xff]"},
		{129, model{}.span(127, 255), "[^\\x00-~]"},
		{254, model{}.span(1, 254), "[^\\x00\\xff]"},
		{254, model{}.span(0, 253), "[^\\xfe\\xff]"},
		{254, model{}.span(2, 255), "[^\\x00\\x01]"},
		{253, model{}.span(3, 255), "[^\\x00-\\x02]"},
		{255, model{}.span(0, 254), "[^\\xff]"},
		{255, model{}.span(1, 255), "[^\\x00]"},
		{255, model{}.with("-").not(), "[^\\-]"},
		{1, model{}.with("\x00"), "[\\x00]"},
		{1, model{}.with("\xff"), "[\\xff]"},
		{2, model{}.with("\x00\xff"), "[\\x00\\xff]"},
		{2, model{}.with("\x00\x01"), "[\\x00\\x01]"},
		{2, model{}.with("\xfe\xff"), "[\\xfe\\xff]"},
		{3, model{}.with("\x00\x01\x02"), "[\\x00-\\x02]"},
		{3, model{}.with("\xfd\xfe\xff"), "[\\xfd-\\xff]"},
	} {
		if c.m.len() != c.n {
			t.Fatalf("%q is a text for %d bytes, not for %d", c.text, c.m.len(), c.n)
		}
		writes(t, c.m, c.text)
	}
}

func TestDot(t *testing.T) {
	m := model{}.with("\n").not()
	if got := Dot(); got != m.set() || got.Len() != 255 || got.Has(10) {
		t.Errorf("Dot() = %x, want %x", got, m.set())
	}
	if got := Text(Dot()); got != "[^\\n]" {
		t.Errorf("Text(Dot()) = %q, want [^\\n]", got)
	}
	everywhere(t, "[^\\n]", m)
	everywhere(t, "[^\n]", m)
}

func TestSetsOfOneByte(t *testing.T) {
	for c := range 256 {
		m := model{}.span(c, c)
		writes(t, m, "["+notation(c)+"]")
		writes(t, m.not(), "[^"+notation(c)+"]")
		everywhere(t, fmt.Sprintf("[\\x%02x]", c), m)
		everywhere(t, fmt.Sprintf("[^\\x%02X]", c), m.not())
	}
}

func TestEveryRange(t *testing.T) {
	for lo := range 256 {
		for hi := lo; hi < 256; hi++ {
			m := model{}.span(lo, hi)
			writes(t, m, m.text())
			for _, s := range []string{
				notation(lo) + "-" + notation(hi),
				fmt.Sprintf("\\x%02x-%s", lo, notation(hi)),
				fmt.Sprintf("%s-\\x%02X", notation(lo), hi),
			} {
				reads(t, "["+s+"]", 0, m.set(), len(s)+2, nil)
				reads(t, "a[^"+s+"]-", 1, m.not().set(), len(s)+4, nil)
			}
		}
	}
}

func TestEveryPairOfBytes(t *testing.T) {
	for a := range 256 {
		for b := range 256 {
			m := model{}.span(a, a).span(b, b)
			s := "[" + notation(a) + notation(b) + "]"
			reads(t, s, 0, m.set(), len(s), nil)
			if a < b {
				writes(t, m, s)
				writes(t, m.not(), "[^"+s[1:])
			}
		}
	}
}

func TestEveryByteThatStandsForItself(t *testing.T) {
	for c := range 256 {
		s, m := string([]byte{byte(c)}), model{}.span(c, c)
		if strings.Contains("[]-/\\", s) {
			continue
		}
		if s != "^" {
			everywhere(t, "["+s+"]", m)
			everywhere(t, "["+s+s+"]", m)
			everywhere(t, "["+s+"-\\xff]", model{}.span(c, 255))
		}
		everywhere(t, "[^"+s+"]", m.not())
		everywhere(t, "[\\x00"+s+"]", m.with("\x00"))
		everywhere(t, "[\\x00-"+s+"]", model{}.span(0, c))
		everywhere(t, "[^"+s+"-\\xff]", model{}.span(c, 255).not())
	}
}

func TestBackslashAheadOfEveryByte(t *testing.T) {
	stands := map[byte]byte{'n': 10, 't': 9, 'r': 13, 's': 32}
	for _, c := range []byte("!\"#$%&'()*+,-./:;<=>?@[\\]^_`{|}~") {
		stands[c] = c
	}
	for n := range 256 {
		s := "\\" + string([]byte{byte(n)})
		c, ok := stands[byte(n)]
		switch {
		case ok:
			m := model{}.with(string([]byte{c}))
			everywhere(t, "["+s+"]", m)
			everywhere(t, "[^"+s+"]", m.not())
			everywhere(t, "["+s+s+"~]", m.with("~"))
			everywhere(t, "["+s+"-"+s+"]", m)
			everywhere(t, "["+s+"-\\xff]", model{}.span(int(c), 255))
			everywhere(t, "[\x00-"+s+"]", model{}.span(0, int(c)))
		case n != 'x':
			tells(t, "["+s, 2, api.ErrForm)
			tells(t, "[^"+s, 3, api.ErrForm)
			tells(t, "[a"+s, 3, api.ErrForm)
			tells(t, "[a-"+s, 4, api.ErrForm)
			tells(t, "[a-c"+s, 5, api.ErrForm)
		}
	}
}

func TestCaret(t *testing.T) {
	for _, c := range []struct {
		s string
		m model
	}{
		{"[^a]", model{}.with("a").not()},
		{"[^^]", model{}.with("^").not()},
		{"[^^^]", model{}.with("^").not()},
		{"[^^a]", model{}.with("^a").not()},
		{"[^a^]", model{}.with("^a").not()},
		{"[^\\^]", model{}.with("^").not()},
		{"[^^-a]", model{}.span(94, 97).not()},
		{"[^A-^]", model{}.span(65, 94).not()},
		{"[a^]", model{}.with("^a")},
		{"[a^b]", model{}.with("^ab")},
		{"[a^^]", model{}.with("^a")},
		{"[a^-c]", model{}.with("a").span(94, 99)},
		{"[A-^]", model{}.span(65, 94)},
		{"[a-c^]", model{}.with("abc^")},
		{"[\\^]", model{}.with("^")},
		{"[\\^a]", model{}.with("^a")},
		{"[\\^-a]", model{}.span(94, 97)},
		{"[\\^^]", model{}.with("^")},
		{"[\\x5e]", model{}.with("^")},
		{"[\\x5Ea]", model{}.with("^a")},
		{"[^\\x00-\\xff]", model{}},
		{"[^\\x00-\\xff^]", model{}},
	} {
		everywhere(t, c.s, c.m)
	}
	tells(t, "[a-^", 3, api.ErrRange)
	tells(t, "[^a-^", 4, api.ErrRange)
	tells(t, "[^-a", 2, api.ErrForm)
}

func TestItemsInAnyOrder(t *testing.T) {
	for _, c := range []struct {
		s string
		m model
	}{
		{"[zyx]", model{}.with("xyz")},
		{"[aaa]", model{}.with("a")},
		{"[banana]", model{}.with("abn")},
		{"[a-a]", model{}.with("a")},
		{"[a-aa-a]", model{}.with("a")},
		{"[a-bc]", model{}.with("abc")},
		{"[a-za-z]", model{}.span('a', 'z')},
		{"[c-eb-da]", model{}.with("abcde")},
		{"[a-zd-f]", model{}.span('a', 'z')},
		{"[d-fa-z]", model{}.span('a', 'z')},
		{"[ea-ge]", model{}.span('a', 'g')},
		{"[a-cx-zd]", model{}.with("abcdxyz")},
		{"[x-za-c]", model{}.with("abcxyz")},
		{"[\\x80-\\xff\\x00-\\x7f]", model{}.not()},
		{"[\\x00-\\xffa]", model{}.not()},
		{"[^zyx]", model{}.with("xyz").not()},
		{"[^b-da-c]", model{}.with("abcd").not()},
		{"[^\\x80-\\xff\\x00-\\x7f]", model{}},
		{"[\\x00-\\x00]", model{}.with("\x00")},
		{"[\\xff-\\xff]", model{}.with("\xff")},
		{"[\\xff\\x00]", model{}.with("\x00\xff")},
		{"[a-c\\-e]", model{}.with("abce-")},
		{"[+-\\-]", model{}.with("+,-")},
		{"[\\--\\/]", model{}.with("-./")},
		{"[\\/\\[\\]\\-]", model{}.with("/[]-")},
		{"[\\[-\\]]", model{}.with("[\\]")},
		{"[|*+?(){}.;]", model{}.with("|*+?(){}.;")},
		{"[ \t\r\n\x00]", model{}.with(" \t\r\n\x00")},
		{"[\n- ]", model{}.span(10, 32)},
		{"[\xc3\xa9]", model{}.with("\xc3\xa9")},
		{"[\x80-\xff]", model{}.span(128, 255)},
		{"[\\x61b]", model{}.with("ab")},
		{"[\\x414]", model{}.with("A4")},
	} {
		everywhere(t, c.s, c.m)
	}
}

func TestTheFirstBracketThatEndsIt(t *testing.T) {
	reads(t, "[a]b]", 0, sets.One('a'), 3, nil)
	reads(t, "[a][b]", 0, sets.One('a'), 3, nil)
	reads(t, "[a][b]", 3, sets.One('b'), 6, nil)
	reads(t, "[a\\]]]", 0, model{}.with("a]").set(), 5, nil)
	reads(t, "[\\\\]", 0, sets.One('\\'), 4, nil)
	reads(t, "[\\\\]]", 0, sets.One('\\'), 4, nil)
	reads(t, "[\\[]", 0, sets.One('['), 4, nil)
	reads(t, "[\\[]", 2, sets.Set{}, 3, api.ErrForm)
}

func TestIndexesThatAreNone(t *testing.T) {
	for _, s := range []string{"", "[", "[]", "[a]", "[^a-c]", "abc", "\\", "[[a]", "é"} {
		for _, at := range []int{math.MinInt, math.MinInt + 1, -1 << 32, -1 << 31, -2, -1, len(s), len(s) + 1, 1 << 31, 1 << 32, math.MaxInt - 1, math.MaxInt} {
			reads(t, s, at, sets.Set{}, len(s), api.ErrShort)
		}
	}
}

func TestAnotherByteThanABracket(t *testing.T) {
	for c := range 256 {
		if c != '[' {
			tells(t, string([]byte{byte(c)}), 0, api.ErrForm)
			tells(t, string([]byte{byte(c)})+"[a]", 0, api.ErrForm)
		}
	}
	for at := 1; at < 7; at++ {
		reads(t, "[^a-c]]", at, sets.Set{}, at, api.ErrForm)
	}
	tells(t, "\\[a]", 0, api.ErrForm)
	tells(t, "^[a]", 0, api.ErrForm)
}

func TestNoItems(t *testing.T) {
	tells(t, "[]", 1, api.ErrForm)
	tells(t, "[^]", 2, api.ErrForm)
	tells(t, "[]a]", 1, api.ErrForm)
	tells(t, "[^]a]", 2, api.ErrForm)
	tells(t, "[]-a]", 1, api.ErrForm)
}

func TestBareBytes(t *testing.T) {
	for _, head := range []string{"[", "[^", "[^^", "[ab", "[a-c", "[^a-c", "[\\-", "[\\x41", "[\x00-\xff", "[\\x00-\\xff"} {
		for _, c := range []string{"[", "/"} {
			tells(t, head+c, len(head), api.ErrForm)
		}
	}
	for _, head := range []string{"[", "[^", "[a-c", "[^a-c", "[a\\--z", "[a^-a", "[\x00-\xff"} {
		tells(t, head+"-", len(head), api.ErrForm)
	}
	for _, head := range []string{"[a-", "[^a-", "[ba-", "[^^-", "[a-cx-", "[\\--", "[\\x00-", "[\xff-"} {
		for _, c := range []string{"[", "]", "-", "/"} {
			tells(t, head+c, len(head), api.ErrForm)
		}
	}
}

func TestErrorsOfTheNotation(t *testing.T) {
	for _, head := range []string{"[", "[^", "[a", "[^^", "[a-c", "[a-", "[^a-", "[ba-", "[a-c\xff-", "[\\--"} {
		n := len(head)
		for _, s := range []string{"\\", "\\x", "\\x4", "\\xf", "\\xF"} {
			fails(t, head+s, n+len(s), api.ErrShort)
		}
		for _, s := range []string{"\\q", "\\X", "\\0", "\\ ", "\\\n", "\\\x00", "\\\x7f", "\\\xff"} {
			tells(t, head+s, n+1, api.ErrForm)
		}
		for _, s := range []string{"\\xg", "\\x]", "\\x-", "\\x[", "\\x\\", "\\x ", "\\xx", "\\xG"} {
			tells(t, head+s, n+2, api.ErrForm)
		}
		for _, s := range []string{"\\x4g", "\\x4]", "\\x4-", "\\x4[", "\\x4\\", "\\x0 ", "\\xfx", "\\xFG"} {
			tells(t, head+s, n+3, api.ErrForm)
		}
	}
}

func TestRangesThatGoDown(t *testing.T) {
	for lo := 1; lo < 256; lo++ {
		for hi := range lo {
			for _, first := range []string{notation(lo), fmt.Sprintf("\\x%02x", lo)} {
				for _, last := range []string{notation(hi), fmt.Sprintf("\\x%02X", hi)} {
					s := "[^b" + first + "-"
					reads(t, s+last, 0, sets.Set{}, len(s), api.ErrRange)
					reads(t, s+last+"]", 0, sets.Set{}, len(s), api.ErrRange)
				}
			}
		}
	}
	tells(t, "[c-a", 3, api.ErrRange)
	tells(t, "[^c-a", 4, api.ErrRange)
	tells(t, "[a-cc-b", 6, api.ErrRange)
	tells(t, "[\\x63-\\x61", 6, api.ErrRange)
	tells(t, "[\\]-\\[", 4, api.ErrRange)
	tells(t, "[\xff-\x00", 3, api.ErrRange)
	tells(t, "[\\xff-\\xfe", 6, api.ErrRange)
	tells(t, "[\x01-\x00", 3, api.ErrRange)
}

func TestTextsThatEnd(t *testing.T) {
	for _, s := range []string{
		"[a]", "[^a]", "[^^]", "[a-c]", "[^a-c]", "[abc]", "[a-cx-z]", "[^a-cx-z^]",
		"[\\n]", "[^\\]]", "[\\x4a]", "[^\\x4A-\\xfF]", "[\\[-\\]]", "[\\--\\/a\\^-\\x7f]", "[\x00-\xff]", "[é]",
	} {
		_, end, err := Read(s, 0)
		if end != len(s) || err != nil {
			t.Fatalf("Read(%q, 0) = %d, %v, want it to end at %d", s, end, err, len(s))
		}
		for n := range len(s) {
			fails(t, s[:n], n, api.ErrShort)
		}
	}
}

func TestOfTwoErrorsTheFirst(t *testing.T) {
	for _, c := range []struct {
		s   string
		at  int
		err error
	}{
		{"]", 0, api.ErrForm},
		{"[][", 1, api.ErrForm},
		{"[]", 1, api.ErrForm},
		{"[^][", 2, api.ErrForm},
		{"[^-", 2, api.ErrForm},
		{"[-\\", 1, api.ErrForm},
		{"[--[", 1, api.ErrForm},
		{"[a-[/", 3, api.ErrForm},
		{"[a--/", 3, api.ErrForm},
		{"[b-a", 3, api.ErrRange},
		{"[b-a-", 3, api.ErrRange},
		{"[b-a[", 3, api.ErrRange},
		{"[b-a\\", 3, api.ErrRange},
		{"[b-a]c-b", 3, api.ErrRange},
		{"[b-ad-c]", 3, api.ErrRange},
		{"[b-a-[]", 3, api.ErrRange},
		{"[b-\\x61\\x6g", 3, api.ErrRange},
		{"[b-\\x6", 6, api.ErrShort},
		{"[b-\\x", 5, api.ErrShort},
		{"[b-\\", 4, api.ErrShort},
		{"[b-\\x6g", 6, api.ErrForm},
		{"[b-\\a", 4, api.ErrForm},
		{"[b-]", 3, api.ErrForm},
		{"[b-", 3, api.ErrShort},
		{"[b-[", 3, api.ErrForm},
		{"[\\q-[", 2, api.ErrForm},
		{"[\\xg-a", 3, api.ErrForm},
		{"[\\x4g", 4, api.ErrForm},
		{"[\\x4", 4, api.ErrShort},
		{"[/-a", 1, api.ErrForm},
		{"[a/[", 2, api.ErrForm},
		{"[[:alpha:]]", 1, api.ErrForm},
		{"[a-c-e]", 4, api.ErrForm},
		{"[a-c--]", 4, api.ErrForm},
		{"[a-]", 3, api.ErrForm},
		{"[a-\\]", 3, api.ErrRange},
		{"[A-\\]", 5, api.ErrShort},
		{"[a\\]", 4, api.ErrShort},
		{"[\\]", 3, api.ErrShort},
	} {
		fails(t, c.s, c.at, c.err)
	}
}

// modelled checks what Read makes of a string at an index.
func modelled(t *testing.T, s string, at int) {
	t.Helper()
	set, next, err := want(s, at)
	reads(t, s, at, set, next, err)
}

func TestEveryStringOfAFewBytes(t *testing.T) {
	alphabet := "[]-/^\\x4a~"
	var longer func(s string, n int)
	longer = func(s string, n int) {
		modelled(t, s, 0)
		if n == 0 {
			return
		}
		for k := range len(alphabet) {
			longer(s+alphabet[k:k+1], n-1)
		}
	}
	longer("", 5)
	for _, head := range []string{"[", "[^", "[4-", "[\\x4", "[^\\", "[\\x41-\\x4"} {
		longer(head, 5)
	}
}

func TestEveryPairOfBytesAtEveryPlace(t *testing.T) {
	for first := range 256 {
		for second := range 256 {
			pair := string([]byte{byte(first), byte(second)})
			for _, head := range []string{"", "[", "[^", "[a", "[P-", "[\\", "[^P-\\", "[\\x", "[P-\\x"} {
				modelled(t, head+pair, 0)
				modelled(t, head+pair+"]", 0)
			}
		}
	}
}

// draws is a row of numbers that look random and are the same each time.
type draws uint32

func (d *draws) below(n int) int {
	*d = *d*1664525 + 1013904223
	return int(uint64(*d) * uint64(n) >> 32)
}

func TestManyStringsAtEveryIndex(t *testing.T) {
	parts := []string{"[", "[^", "]", "-", "/", "^", "\\", "\\x", "\\x4a", "\\n", "\\]", "a-z", "0", "\\x00-\\xff", "A-\\^", "\x00", "\xff", "é", "b-a", "+-"}
	for seed := range 20000 {
		d := draws(seed)
		s := "["
		for range d.below(12) {
			s += parts[d.below(len(parts))]
		}
		for at := -2; at <= len(s)+2; at++ {
			modelled(t, s, at)
		}
	}
}

func TestManySets(t *testing.T) {
	lengths := map[int]bool{}
	for seed := range 6000 {
		d := draws(seed)
		var m model
		for range d.below(40) {
			lo := d.below(256)
			m = m.span(lo, min(255, lo+d.below(12)))
		}
		for range d.below(40) {
			c := d.below(256)
			m[c] = !m[c]
		}
		if d.below(2) == 0 {
			m = m.not()
		}
		lengths[m.len()] = true
		writes(t, m, m.text())
	}
	for _, n := range []int{126, 127, 128, 129, 130} {
		if !lengths[n] {
			t.Errorf("no set of %d bytes was drawn", n)
		}
	}
}

func TestSetsAroundTheMiddle(t *testing.T) {
	for seed := range 200 {
		d := draws(seed)
		var bytes []int
		for c := range 256 {
			bytes = slices.Insert(bytes, d.below(len(bytes)+1), c)
		}
		var m model
		for n, c := range bytes {
			if n >= 127 && n <= 130 {
				writes(t, m, m.text())
			}
			m[c] = true
		}
	}
}

func TestALongExpression(t *testing.T) {
	s := "[" + strings.Repeat("a-c\\x41", 1<<18) + "]"
	reads(t, s, 0, model{}.with("abcA").set(), len(s), nil)
	reads(t, s[:len(s)-1], 0, sets.Set{}, len(s)-1, api.ErrShort)
	reads(t, s[:len(s)-1]+"/", 0, sets.Set{}, len(s)-1, api.ErrForm)
}
