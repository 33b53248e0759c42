package actions

import (
	"strings"
	"testing"

	"doffer/api"
)

// is checks a valid action and its text, there and back.
func is(t *testing.T, s string, want Action) {
	t.Helper()
	if !Right(want) {
		t.Errorf("Right(%q) is false", want)
	}
	if got, err := Text(want); got != s || err != nil {
		t.Errorf("Text(%q) = %q, %v, want %q", want, got, err, s)
	}
	if a, at, err := Parse(s); a != want || at != len(s) || err != nil {
		t.Errorf("Parse(%q) = %q, %d, %v, want %q", s, a, at, err, want)
	}
	check(t, s)
}

// fails checks that a text ends with an error at a place, and that nothing is returned with it.
func fails(t *testing.T, s string, place int, want error) {
	t.Helper()
	if a, at, err := Parse(s); a != (Action{}) || at != place || !same(err, want) {
		t.Errorf("Parse(%q) = %q, %d, %v, want an error at %d: %v", s, a, at, err, place, want)
	}
	check(t, s)
}

func TestChapterExample(t *testing.T) {
	is(t, "emit num begin main", Action{Emit: "num", Begin: "main"})
}

func TestLimitIsItsNumber(t *testing.T) {
	if api.MaxName != 12 {
		t.Errorf("MaxName %d", api.MaxName)
	}
}

func TestActions(t *testing.T) {
	for _, w := range []struct {
		s string
		a Action
	}{
		{"skip", Action{}},
		{"emit num", Action{Emit: "num"}},
		{"skip begin str", Action{Begin: "str"}},
		{"emit num begin str", Action{Emit: "num", Begin: "str"}},
		{"emit a", Action{Emit: "a"}},
		{"skip begin z", Action{Begin: "z"}},
		{"emit a begin a", Action{Emit: "a", Begin: "a"}},
		{"emit x0 begin y99", Action{Emit: "x0", Begin: "y99"}},
		{"emit abcdefghijkl", Action{Emit: "abcdefghijkl"}},
		{"skip begin z00000000009", Action{Begin: "z00000000009"}},
		{"emit zzzzzzzzzzzz begin abcdefghijkl", Action{Emit: "zzzzzzzzzzzz", Begin: "abcdefghijkl"}},
		{"emit main begin main", Action{Emit: "main", Begin: "main"}},
	} {
		is(t, w.s, w.a)
	}
}

func TestItsWordsAsNames(t *testing.T) {
	for _, token := range []string{"emit", "skip", "begin"} {
		is(t, "emit "+token, Action{Emit: token})
		is(t, "skip begin "+token, Action{Begin: token})
		for _, cond := range []string{"emit", "skip", "begin"} {
			is(t, "emit "+token+" begin "+cond, Action{Emit: token, Begin: cond})
		}
		fails(t, "emit "+token+" begin", len(token)+11, api.ErrShort)
		fails(t, "emit "+token+" emit", len(token)+6, api.ErrForm)
		fails(t, "emit "+token+" skip", len(token)+6, api.ErrForm)
		fails(t, "skip begin "+token+" begin", len(token)+12, api.ErrLong)
	}
}

func TestErrors(t *testing.T) {
	for _, w := range []struct {
		s   string
		at  int
		err error
	}{
		{"", 0, api.ErrForm}, {" ", 0, api.ErrForm}, {"  ", 0, api.ErrForm}, {" emit num", 0, api.ErrForm}, {" skip", 0, api.ErrForm}, {"  skip begin main", 0, api.ErrForm},
		{"num", 0, api.ErrForm}, {"begin", 0, api.ErrForm}, {"begin main", 0, api.ErrForm}, {"Emit num", 0, api.ErrForm}, {"SKIP", 0, api.ErrForm}, {"emi num", 0, api.ErrForm}, {"emits num", 0, api.ErrForm}, {"skipp", 0, api.ErrForm}, {"emit\tnum", 0, api.ErrForm}, {"skip\n", 0, api.ErrForm}, {"emitnum", 0, api.ErrForm}, {"skipbegin main", 0, api.ErrForm}, {"emit,", 0, api.ErrForm},
		{"emit", 4, api.ErrShort}, {"skip begin", 10, api.ErrShort}, {"emit num begin", 14, api.ErrShort}, {"emit abcdefghijkl begin", 23, api.ErrShort},
		{"emit ", 5, api.ErrName}, {"emit  ", 5, api.ErrName}, {"emit   ", 5, api.ErrName}, {"emit  num", 5, api.ErrName}, {"emit  num begin main", 5, api.ErrName}, {"emit  begin main", 5, api.ErrName}, {"emit Num", 5, api.ErrName}, {"emit 1", 5, api.ErrName}, {"emit n-m", 5, api.ErrName}, {"emit num\n", 5, api.ErrName}, {"emit num\tbegin main", 5, api.ErrName}, {"emit abcdefghijklm", 5, api.ErrName}, {"emit abcdefghijklm begin main", 5, api.ErrName},
		{"skip begin ", 11, api.ErrName}, {"skip begin  ", 11, api.ErrName}, {"skip begin  main", 11, api.ErrName}, {"skip begin Main", 11, api.ErrName}, {"skip begin a,b", 11, api.ErrName}, {"skip begin abcdefghijklm", 11, api.ErrName}, {"skip begin main\r", 11, api.ErrName},
		{"emit num begin ", 15, api.ErrName}, {"emit num begin  ", 15, api.ErrName}, {"emit num begin  main", 15, api.ErrName}, {"emit num begin 9", 15, api.ErrName}, {"emit num begin \xff", 15, api.ErrName}, {"emit num begin abcdefghijklm", 15, api.ErrName}, {"emit num begin {main}", 15, api.ErrName},
		{"skip ", 5, api.ErrForm}, {"skip  ", 5, api.ErrForm}, {"skip  begin main", 5, api.ErrForm}, {"skip num", 5, api.ErrForm}, {"skip main begin", 5, api.ErrForm}, {"skip skip", 5, api.ErrForm}, {"skip emit num", 5, api.ErrForm}, {"skip Begin main", 5, api.ErrForm}, {"skip beginn main", 5, api.ErrForm}, {"skip begi", 5, api.ErrForm}, {"skip begin\tmain", 5, api.ErrForm},
		{"emit num ", 9, api.ErrForm}, {"emit num  ", 9, api.ErrForm}, {"emit num  begin main", 9, api.ErrForm}, {"emit num main", 9, api.ErrForm}, {"emit num BEGIN main", 9, api.ErrForm}, {"emit num emit", 9, api.ErrForm}, {"emit num skip", 9, api.ErrForm}, {"emit num begin\n", 9, api.ErrForm},
		{"skip begin main ", 16, api.ErrLong}, {"skip begin main  ", 16, api.ErrLong}, {"skip begin main begin", 16, api.ErrLong}, {"skip begin main begin main", 16, api.ErrLong}, {"skip begin a b c", 13, api.ErrLong}, {"skip begin main \xff", 16, api.ErrLong},
		{"emit num begin main ", 20, api.ErrLong}, {"emit num begin main  ", 20, api.ErrLong}, {"emit num begin main  x", 20, api.ErrLong}, {"emit num begin main x", 20, api.ErrLong}, {"emit num begin main skip", 20, api.ErrLong}, {"emit a begin b \n", 15, api.ErrLong},
	} {
		fails(t, w.s, w.at, w.err)
	}
}

func TestTheFirstWrongWordCounts(t *testing.T) {
	for _, w := range []struct {
		s   string
		at  int
		err error
	}{
		{"emits 1 begins 2 x", 0, api.ErrForm},
		{"emit 1 begin", 5, api.ErrName},
		{"emit 1 begin ", 5, api.ErrName},
		{"emit 1 begins 2 x", 5, api.ErrName},
		{"emit 1 begin 2 x", 5, api.ErrName},
		{"emit a begins", 7, api.ErrForm},
		{"emit a begins 2 x", 7, api.ErrForm},
		{"emit a b begin", 7, api.ErrForm},
		{"emit a begin 2 x", 13, api.ErrName},
		{"emit a begin  x", 13, api.ErrName},
		{"emit a begin b x", 15, api.ErrLong},
		{"skips begin", 0, api.ErrForm},
		{"skip x begin", 5, api.ErrForm},
		{"skip begins 2 x", 5, api.ErrForm},
		{"skip begin 2 x", 11, api.ErrName},
	} {
		fails(t, w.s, w.at, w.err)
	}
}

func TestInvalidActions(t *testing.T) {
	bad := []string{"A", "1", "a_b", "aB", "a b", " ", " a", "a ", "a\n", "\t", "\x00", "a\x00", "\xff", "a\x80", "\u00e9", "a\u00e9", "{a}", "a,b", "-", "Emit", "emit num", "skip begin main", "abcdefghijklm", strings.Repeat("a", 1000)}
	for _, s := range bad {
		for _, a := range []Action{{Emit: s}, {Begin: s}, {Emit: s, Begin: "main"}, {Emit: "num", Begin: s}, {Emit: s, Begin: s}} {
			if Right(a) {
				t.Errorf("Right(%q) is true", a)
			}
			if got, err := Text(a); got != "" || !same(err, api.ErrName) {
				t.Errorf("Text(%q) = %q, %v", a, got, err)
			}
			checkAction(t, a)
		}
		for _, other := range bad {
			checkAction(t, Action{Emit: s, Begin: other})
		}
	}
}

// gap is a text that lacks a word, and what is wrong with one that may not be there.
type gap struct {
	head, tail string
	wrong      error
}

// gaps are at each word that a text can have, with right words around them and with wrong ones behind.
func gaps() []gap {
	return []gap{
		{"", "", api.ErrForm}, {"", " num", api.ErrForm}, {"", " begin main", api.ErrForm}, {"", " num begin main", api.ErrForm},
		{"emit ", "", api.ErrName}, {"emit ", " begin main", api.ErrName}, {"skip begin ", "", api.ErrName}, {"emit num begin ", "", api.ErrName}, {"emit num begin ", " x", api.ErrName},
		{"skip ", "", api.ErrForm}, {"skip ", " main", api.ErrForm}, {"emit num ", "", api.ErrForm}, {"emit num ", " main", api.ErrForm}, {"emit num ", " main x", api.ErrForm},
		{"skip begin main ", "", api.ErrLong}, {"skip begin main ", " x", api.ErrLong}, {"emit num begin main ", "", api.ErrLong}, {"emit num begin main ", " begin main", api.ErrLong},
	}
}

func TestBytesThatAreInNoWord(t *testing.T) {
	for c := range 256 {
		s := string([]byte{byte(c)})
		if s == " " || c >= 'a' && c <= 'z' || c >= '0' && c <= '9' {
			continue
		}
		for _, g := range gaps() {
			for _, word := range []string{s, s + s, "emit" + s, s + "emit", "em" + s + "it", "skip" + s, s + "skip", "begin" + s, s + "begin", "be" + s + "in", "a" + s, s + "a", "a" + s + "b", "abcdefghijk" + s, "abcdefghijkl" + s} {
				fails(t, g.head+word+g.tail, len(g.head), g.wrong)
			}
		}
	}
}

func TestEveryByteEverywhere(t *testing.T) {
	for _, s := range []string{"", "skip", "emit num", "skip begin main", "emit num begin main", "emit abcdefghijkl begin abcdefghijkl", "emit  num", "emit num begin main x"} {
		for at := range len(s) + 1 {
			check(t, s[:at])
			check(t, s[at:])
			for c := range 256 {
				check(t, s[:at]+string([]byte{byte(c)})+s[at:])
				if at < len(s) {
					check(t, s[:at]+string([]byte{byte(c)})+s[at+1:])
				}
			}
			if at < len(s) {
				check(t, s[:at]+s[at+1:])
			}
		}
	}
	for c := range 256 {
		s := string([]byte{byte(c)})
		for _, name := range []string{s, s + "a", "a" + s, "a" + s + "b", "abcdefghijk" + s, "abcdefghijkl" + s} {
			checkNames(t, name)
		}
	}
}

// almost are words that are another one but for one byte or for the case of letters, or that it begins or ends.
func almost(word string) []string {
	all := []string{strings.ToUpper(word), strings.ToUpper(word[:1]) + word[1:], word + word, word + "s", word + "0", "a" + word}
	for at := range len(word) {
		all = append(all, word[:at], word[:at]+word[at+1:], word[:at]+word[at:at+1]+word[at:], word[:at]+strings.ToUpper(word[at:at+1])+word[at+1:])
		for c := range 256 {
			if byte(c) != word[at] && c != ' ' {
				all = append(all, word[:at]+string([]byte{byte(c)})+word[at+1:])
			}
		}
	}
	return all
}

func TestWordsThatAreAlmostThese(t *testing.T) {
	for _, word := range almost("emit") {
		fails(t, word, 0, api.ErrForm)
		fails(t, word+" num", 0, api.ErrForm)
		fails(t, word+" num begin main", 0, api.ErrForm)
	}
	for _, word := range almost("skip") {
		fails(t, word, 0, api.ErrForm)
		fails(t, word+" begin main", 0, api.ErrForm)
	}
	for _, word := range almost("begin") {
		fails(t, "skip "+word, 5, api.ErrForm)
		fails(t, "skip "+word+" main", 5, api.ErrForm)
		fails(t, "emit num "+word, 9, api.ErrForm)
		fails(t, "emit num "+word+" main", 9, api.ErrForm)
	}
}

func TestLengthsOfNames(t *testing.T) {
	for length := 1; length < 40; length++ {
		for _, s := range []string{strings.Repeat("z", length), "a" + strings.Repeat("9", length-1)} {
			checkNames(t, s)
			if length <= 12 {
				is(t, "emit "+s, Action{Emit: s})
				is(t, "skip begin "+s, Action{Begin: s})
				is(t, "emit "+s+" begin "+s, Action{Emit: s, Begin: s})
				continue
			}
			fails(t, "emit "+s, 5, api.ErrName)
			fails(t, "skip begin "+s, 11, api.ErrName)
			fails(t, "emit "+s+" begin main", 5, api.ErrName)
			fails(t, "emit num begin "+s, 15, api.ErrName)
		}
	}
}

func TestSpaces(t *testing.T) {
	for ahead := range 4 {
		for between := range 4 {
			for behind := range 4 {
				for _, words := range [][]string{{"emit"}, {"skip"}, {"emit", "num"}, {"skip", "begin"}, {"skip", "begin", "main"}, {"emit", "num", "begin"}, {"emit", "num", "begin", "main"}} {
					s := strings.Repeat(" ", ahead) + strings.Join(words, strings.Repeat(" ", between)) + strings.Repeat(" ", behind)
					check(t, s)
					if _, _, err := Parse(s); ahead+behind > 0 && err == nil {
						t.Errorf("Parse(%q) has no error", s)
					}
				}
			}
		}
	}
}

// rows calls each with every row of up to so many words behind a text.
func rows(head string, words []string, most int, each func(string)) {
	for _, w := range words {
		each(head + w)
		if most > 1 {
			rows(head+w+" ", words, most-1, each)
		}
	}
}

func TestEveryRowOfWords(t *testing.T) {
	words := []string{"", "emit", "skip", "begin", "a", "z9", "abcdefghijkl", "abcdefghijklm", "Emit", "9", "b\n"}
	rows("", words, 4, func(s string) { check(t, s) })
	for _, head := range []string{"emit ", "emit a ", "skip ", "skip begin ", "emit a begin ", "skip begin a ", "emit a begin b "} {
		rows(head, words, 3, func(s string) { check(t, s) })
	}
}

func TestEveryShortText(t *testing.T) {
	var longer func(s, alphabet string, most int)
	longer = func(s, alphabet string, most int) {
		check(t, s)
		if most == 0 {
			return
		}
		for k := range len(alphabet) {
			longer(s+alphabet[k:k+1], alphabet, most-1)
		}
	}
	longer("", "emit ", 7)
	longer("", "skip ", 7)
	for _, head := range []string{"emit", "skip", "emit a", "skip begin", "emit a begin", "skip begin b", "emit a begin b"} {
		longer(head, "a1 \nA\x00", 5)
		longer(head+" ", "begin ", 6)
	}
}

func TestEveryActionOfSomeNames(t *testing.T) {
	all := []string{"", "emit", "skip", "begin", "main"}
	for c := range 26 {
		for length := range 12 {
			all = append(all, string([]byte{byte('a' + c)})+strings.Repeat("0z", 6)[:length])
		}
	}
	for _, token := range all {
		for _, cond := range all {
			a := Action{Emit: token, Begin: cond}
			if !Right(a) {
				t.Fatalf("Right(%q) is false", a)
			}
			checkAction(t, a)
		}
	}
}

func TestLongTexts(t *testing.T) {
	const many = 1 << 20
	fails(t, strings.Repeat("emit", many), 0, api.ErrForm)
	fails(t, strings.Repeat(" ", many), 0, api.ErrForm)
	fails(t, strings.Repeat("emit ", many), 10, api.ErrForm)
	fails(t, "emit "+strings.Repeat("a", many), 5, api.ErrName)
	fails(t, "emit "+strings.Repeat(" ", many), 5, api.ErrName)
	fails(t, "skip"+strings.Repeat(" ", many), 5, api.ErrForm)
	fails(t, "skip begin main"+strings.Repeat(" ", many), 16, api.ErrLong)
	fails(t, "emit a begin b "+strings.Repeat("begin b ", many), 15, api.ErrLong)
	checkNames(t, strings.Repeat("a", many))
}
