package actions

import (
	"errors"
	"regexp"
	"strings"
	"testing"

	"doffer/api"
)

// What is valid, as the chapters word it.
var (
	validName = regexp.MustCompile(`\A[a-z][a-z0-9]{0,11}\z`)
	validText = regexp.MustCompile(`\A(?:emit ([a-z][a-z0-9]{0,11})|skip)(?: begin ([a-z][a-z0-9]{0,11}))?\z`)
)

func right(a Action) bool {
	return (a.Emit == "" || validName.MatchString(a.Emit)) && (a.Begin == "" || validName.MatchString(a.Begin))
}

// text is the words of a valid action.
func text(a Action) string {
	words := []string{"skip"}
	if a.Emit != "" {
		words = []string{"emit", a.Emit}
	}
	if a.Begin != "" {
		words = append(words, "begin", a.Begin)
	}
	return strings.Join(words, " ")
}

// What may come next while a text is read.
const (
	wantFirst = iota
	wantToken
	wantFurther
	wantCond
	wantEnd
)

// step is what may come behind a word, or the error if the word may not come.
func step(want int, word string) (int, error) {
	named := validName.MatchString(word)
	switch {
	case want == wantFirst && word == "emit":
		return wantToken, nil
	case want == wantFirst && word == "skip":
		return wantFurther, nil
	case want == wantToken && named:
		return wantFurther, nil
	case want == wantFurther && word == "begin":
		return wantCond, nil
	case want == wantCond && named:
		return wantEnd, nil
	case want == wantToken || want == wantCond:
		return want, api.ErrName
	case want == wantEnd:
		return want, api.ErrLong
	}
	return want, api.ErrForm
}

// parse finds the error word by word; a text without one is taken apart as a whole.
func parse(s string) (Action, int, error) {
	want, at := wantFirst, 0
	for word := range strings.SplitSeq(s, " ") {
		next, err := step(want, word)
		if err != nil {
			return Action{}, at, err
		}
		want, at = next, at+len(word)+1
	}
	if want == wantToken || want == wantCond {
		return Action{}, len(s), api.ErrShort
	}
	parts := validText.FindStringSubmatch(s)
	return Action{Emit: parts[1], Begin: parts[2]}, len(s), nil
}

// check checks a text against the model, and that it is written again as it was if it is parsed.
func check(t *testing.T, s string) {
	t.Helper()
	want, place, wrong := parse(s)
	a, at, err := Parse(s)
	if a != want || at != place || !same(err, wrong) {
		t.Fatalf("Parse(%q) = %q, %d, %v, want %q, %d, %v", s, a, at, err, want, place, wrong)
	}
	if (err == nil) != validText.MatchString(s) {
		t.Fatalf("Parse(%q): %v", s, err)
	}
	if err == nil {
		checkAction(t, a)
		if again, err := Text(a); again != s || err != nil {
			t.Fatalf("Text(%q) = %q, %v, want %q", a, again, err, s)
		}
	}
}

// checkAction checks an action against the model, and that it is parsed from its text.
func checkAction(t *testing.T, a Action) {
	t.Helper()
	if got := Right(a); got != right(a) {
		t.Fatalf("Right(%q) = %v", a, got)
	}
	s, err := Text(a)
	if !right(a) {
		if s != "" || !errors.Is(err, api.ErrName) {
			t.Fatalf("Text(%q) = %q, %v, want an error: %v", a, s, err, api.ErrName)
		}
		return
	}
	if s != text(a) || err != nil {
		t.Fatalf("Text(%q) = %q, %v, want %q", a, s, err, text(a))
	}
	if got, at, err := Parse(s); got != a || at != len(s) || err != nil {
		t.Fatalf("Parse(%q) = %q, %d, %v, want %q", s, got, at, err, a)
	}
}

// checkNames checks both fields with a name in them.
func checkNames(t *testing.T, name string) {
	t.Helper()
	for _, other := range []string{"", "b", "abcdefghijkl", "A", name} {
		checkAction(t, Action{Emit: name, Begin: other})
		checkAction(t, Action{Emit: other, Begin: name})
	}
}

// same tells whether an error is the one that is wanted, nil included.
func same(err, want error) bool {
	if want == nil {
		return err == nil
	}
	return errors.Is(err, want)
}
