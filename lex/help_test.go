package lex_test

import (
	"regexp"
	"slices"
	"testing"

	"groma/api"
	"groma/lex"
)

// What the chapter says of tokens, as patterns: model holds the package against these.
var (
	blanks  = regexp.MustCompile(`^[\x20\x09\x0d\x0a]*`)
	words   = regexp.MustCompile(`^[A-Za-z]+`)
	signs   = regexp.MustCompile(`^[0-9+\-.][0-9+\-.eE]*`)
	numbers = regexp.MustCompile(`^[+-]?([0-9]+|[0-9]+\.[0-9]*|\.[0-9]+)([eE][+-]?[0-9]+)?$`)
)

// said is what Tokens and All should tell of a text.
type said struct {
	tokens []lex.Token // those ahead of the first one that is wrong
	texts  []string    // theirs, as All tells them
	place  int         // of the first one that is wrong
	e      api.Errno
}

func model(s string) said {
	var out said
	at := len(blanks.FindString(s))
	for at < len(s) {
		kind, text := begun(s[at:])
		if kind == 0 {
			out.place, out.e = at, api.ErrSyntax
			return out
		}
		out.tokens = append(out.tokens, lex.Token{Kind: kind, From: at, To: at + len(text)})
		if kind == lex.Word {
			text = great(text)
		}
		out.texts = append(out.texts, text)
		at = out.tokens[len(out.tokens)-1].To
		at += len(blanks.FindString(s[at:]))
	}
	return out
}

// begun is the token that begins s, and its kind; 0 if none does that is right.
func begun(s string) (int, string) {
	if text := words.FindString(s); text != "" {
		return lex.Word, text
	}
	if text := signs.FindString(s); numbers.MatchString(text) {
		return lex.Number, text
	}
	for i, c := range []byte("(),") {
		if s[0] == c {
			return lex.Open + i, s[:1]
		}
	}
	return 0, ""
}

// great is s in great letters.
func great(s string) string {
	var out []byte
	for _, c := range []byte(s) {
		if i := slices.Index([]byte("abcdefghijklmnopqrstuvwxyz"), c); i >= 0 {
			c = "ABCDEFGHIJKLMNOPQRSTUVWXYZ"[i]
		}
		out = append(out, c)
	}
	return string(out)
}

// whole holds all that the package tells of a text against what it should.
func whole(t *testing.T, s string) {
	t.Helper()
	want := model(s)
	tokens(t, s, want)
	all(t, s, want)
	if got := lex.Right(s); got != numbers.MatchString(s) {
		t.Errorf("Right(%q): %v", s, got)
	}
	if got := lex.Upper(s); got != great(s) {
		t.Errorf("Upper(%q): %q, not %q", s, got, great(s))
	}
}

// tokens holds what Tokens tells of a text against what it should.
func tokens(t *testing.T, s string, want said) {
	t.Helper()
	if want.e != api.OK {
		want.tokens = nil
	}
	got, place, e := lex.Tokens(s)
	if !slices.Equal(got, want.tokens) || place != want.place || e != want.e {
		t.Errorf("Tokens(%q): %v, %d, %d, not %v, %d, %d", s, got, place, e, want.tokens, want.place, want.e)
	}
}

// all holds what All tells of a text against what it should, twice: it begins anew with each loop.
func all(t *testing.T, s string, want said) {
	t.Helper()
	seq := lex.All(s)
	for range 2 {
		var got said
		for token, text := range seq {
			got.tokens, got.texts = append(got.tokens, token), append(got.texts, text)
		}
		if !slices.Equal(got.tokens, want.tokens) || !slices.Equal(got.texts, want.texts) {
			t.Errorf("All(%q): %v, %q, not %v, %q", s, got.tokens, got.texts, want.tokens, want.texts)
		}
	}
}

// texts are all of at most n of these bytes.
func texts(signs string, n int) []string {
	all := []string{""}
	last := all
	for range n {
		var longer []string
		for _, s := range last {
			for i := range len(signs) {
				longer = append(longer, s+signs[i:i+1])
			}
		}
		all, last = append(all, longer...), longer
	}
	return all
}

// piece is a token as tests write it.
type piece struct {
	kind int
	text string
}

// told is what Tokens tells of a text that should be right.
func told(t *testing.T, s string) []piece {
	t.Helper()
	l, place, e := lex.Tokens(s)
	if place != 0 || e != api.OK {
		t.Errorf("Tokens(%q): %d, %d", s, place, e)
	}
	var out []piece
	for _, token := range l {
		out = append(out, piece{token.Kind, token.Text(s)})
	}
	return out
}

// equal holds what Tokens tells of a text against these.
func equal(t *testing.T, s string, want ...piece) {
	t.Helper()
	if got := told(t, s); !slices.Equal(got, want) {
		t.Errorf("Tokens(%q): %v, not %v", s, got, want)
	}
}
