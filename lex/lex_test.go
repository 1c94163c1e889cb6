package lex_test

import (
	"math"
	"slices"
	"strings"
	"testing"

	"groma/api"
	"groma/lex"
)

// P9.1, P9.2: all texts of few bytes, of each kind.
func TestAllSmall(t *testing.T) {
	for _, s := range texts("7e.-z( ;", 5) {
		whole(t, s)
	}
	for _, s := range texts("1E+,)\n\x80", 5) {
		whole(t, s)
	}
}

// P9.1, P9.2: all that may be a number, of few signs.
func TestAllNumbers(t *testing.T) {
	for _, s := range texts("0+-.eE", 6) {
		whole(t, s)
	}
	for _, s := range texts("9.e-", 8) {
		whole(t, s)
	}
}

// P9.1, P9.2: each byte, by itself and with what may stand around it.
func TestEachByte(t *testing.T) {
	for c := range 256 {
		b := string([]byte{byte(c)})
		for _, ahead := range []string{"", " ", "a", "Z", "1", "-", ".", "1e", "(", ",", "é"} {
			for _, behind := range []string{"", " ", "a", "Z", "1", ".5", "e1", ")", ",", "\xff"} {
				whole(t, ahead+b+behind)
			}
		}
	}
}

// P9.1, P9.2: each two bytes.
func TestEachTwoBytes(t *testing.T) {
	for c := range 1 << 16 {
		whole(t, string([]byte{byte(c >> 8), byte(c)}))
	}
}

// The chapter's example.
func TestExample(t *testing.T) {
	s := "Point(1 -2.5e3)"
	equal(t, s, piece{lex.Word, "Point"}, piece{lex.Open, "("}, piece{lex.Number, "1"}, piece{lex.Number, "-2.5e3"}, piece{lex.Close, ")"})
	l, _, _ := lex.Tokens(s)
	if want := []lex.Token{{1, 0, 5}, {3, 5, 6}, {2, 6, 7}, {2, 8, 14}, {4, 14, 15}}; !slices.Equal(l, want) {
		t.Errorf("Tokens: %v, not %v", l, want)
	}
}

// P9.1: the kinds are numbered as the chapter says.
func TestKinds(t *testing.T) {
	l, _, _ := lex.Tokens("a 1 ( ) ,")
	for i, token := range l {
		if token.Kind != i+1 {
			t.Errorf("the kind of the token at %d: %d", i, token.Kind)
		}
	}
	if len(l) != 5 {
		t.Errorf("%d tokens", len(l))
	}
}

// P9.1: of no text, and of blanks alone, nothing is told, and it is no error.
func TestBlanksAlone(t *testing.T) {
	for _, s := range texts("\x20\x09\x0d\x0a", 4) {
		equal(t, s)
		whole(t, s)
	}
}

// P9.1: blanks of each kind ahead of tokens, between them and behind them; bytes that look like blanks are none.
func TestBlanksAround(t *testing.T) {
	for _, b := range []string{"\x20", "\x09", "\x0d", "\x0a", "\r\n", " \t\t "} {
		equal(t, b+"ab"+b+"1"+b+"("+b+"cd"+b+","+b+"2"+b+"3"+b+")"+b,
			piece{1, "ab"}, piece{2, "1"}, piece{3, "("}, piece{1, "cd"}, piece{5, ","}, piece{2, "2"}, piece{2, "3"}, piece{4, ")"})
		equal(t, "a"+b+"b"+b+"1"+b+"-1", piece{1, "a"}, piece{1, "b"}, piece{2, "1"}, piece{2, "-1"})
	}
	for _, b := range []string{"\x00", "\x0b", "\x0c", "\x1f", "\x7f", "\x85", "\xa0", "\u00a0", "\u2003", "\ufeff"} {
		for _, s := range []string{b, b + " a", "a" + b + "1", "1" + b + "a", "( " + b, "a 1" + b} {
			wrong(t, s, strings.Index(s, b))
		}
	}
}

// wrong holds what Tokens tells of a text of which the token at that place is wrong, be it in the text's last bytes or ahead
// of others.
func wrong(t *testing.T, s string, place int) {
	t.Helper()
	for _, s := range []string{s, s + " ", s + " a", s + " ;", s + ",(1"} {
		if l, at, e := lex.Tokens(s); len(l) != 0 || at != place || e != api.ErrSyntax {
			t.Errorf("Tokens(%q): %v, %d, %d, not at %d", s, l, at, e, place)
		}
	}
}

// P9.1: words and numbers that stand side by side without a blank.
func TestSideBySide(t *testing.T) {
	equal(t, "POINT1", piece{1, "POINT"}, piece{2, "1"})
	equal(t, "1POINT", piece{2, "1"}, piece{1, "POINT"})
	equal(t, "a1b2", piece{1, "a"}, piece{2, "1"}, piece{1, "b"}, piece{2, "2"})
	equal(t, "x-1.y", piece{1, "x"}, piece{2, "-1."}, piece{1, "y"})
	equal(t, "z.5Z", piece{1, "z"}, piece{2, ".5"}, piece{1, "Z"})
	equal(t, "((,,))", piece{3, "("}, piece{3, "("}, piece{5, ","}, piece{5, ","}, piece{4, ")"}, piece{4, ")"})
	equal(t, "(1,a)2", piece{3, "("}, piece{2, "1"}, piece{5, ","}, piece{1, "a"}, piece{4, ")"}, piece{2, "2"})
}

// P9.1: an e begins a word, unless it stands behind a number's signs: then it is one of them.
func TestE(t *testing.T) {
	equal(t, "e", piece{1, "e"})
	equal(t, "E5", piece{1, "E"}, piece{2, "5"})
	equal(t, "e-5", piece{1, "e"}, piece{2, "-5"})
	equal(t, "1 e5", piece{2, "1"}, piece{1, "e"}, piece{2, "5"})
	equal(t, "empty", piece{1, "empty"})
	equal(t, "1e5north", piece{2, "1e5"}, piece{1, "north"})
	equal(t, "(e)", piece{3, "("}, piece{1, "e"}, piece{4, ")"})
	for _, s := range []string{"1e", "5east", "5East", "1e5east", "1e5e", "1.e", "1e5E5", "1ee5", "1 2e x"} {
		wrong(t, s, strings.LastIndex(s, " 2e")+1)
	}
}

// P9.1, P9.2: numbers with each sign, with a point ahead, between and behind, with e and E and a sign behind it; each cut
// short at each place.
func TestNumbers(t *testing.T) {
	for _, sign := range []string{"", "+", "-"} {
		for _, digits := range []string{"0", "7", "12", "007", "12.", ".34", "12.34", "0.0", "1234567890"} {
			right(t, sign+digits)
			for _, e := range []string{"e", "E", "e+", "e-", "E+", "E-"} {
				wrong(t, sign+digits+e, 0)
				right(t, sign+digits+e+"0")
				right(t, sign+digits+e+"08")
			}
		}
		for _, none := range []string{".", ".e1", "e1"} {
			if lex.Right(sign + none) {
				t.Errorf("Right(%q)", sign+none)
			}
		}
	}
	s := "-12.5E+30"
	for n, ok := range []bool{false, false, true, true, true, true, false, false, true, true} {
		if lex.Right(s[:n]) != ok {
			t.Errorf("Right(%q)", s[:n])
		}
	}
}

// right holds that a text is one number.
func right(t *testing.T, s string) {
	t.Helper()
	if !lex.Right(s) {
		t.Errorf("Right(%q)", s)
	}
	equal(t, s, piece{lex.Number, s})
	equal(t, "x"+s+"\n"+s+",", piece{lex.Word, "x"}, piece{lex.Number, s}, piece{lex.Number, s}, piece{lex.Comma, ","})
}

// P9.1: runs of a number's signs that are no number are wrong as a whole, though what they begin with be right.
func TestNoNumbers(t *testing.T) {
	for _, s := range []string{
		"+", "-", ".", "+.", "-.", "..", "--1", "+-1", "-+1", "1-", "1+", "1-2", "1+2", "-1-1", "1..2", "1.2.3", "1.2.", "..1", ".1.",
		"1.-2", "1-.5", "12e3.5", "1e.5", "1e5.", "1e+-5", "1e5-5", "1e5+", "1e1e1", ".e1", "-e1", "+.E-1", "1.e.", "0-", "5+e1",
	} {
		if lex.Right(s) {
			t.Errorf("Right(%q)", s)
		}
		wrong(t, s, 0)
		wrong(t, "ab, 1.5"+" "+s, 8)
		wrong(t, "("+s+")", 1)
	}
}

// P9.2: what is more than a number's text, or less, or another token's, isn't right.
func TestRightOfOthers(t *testing.T) {
	for _, s := range []string{"", " ", "1 ", " 1", "1\n", "1 2", "1,", "(1", "1)", "a", "e", "E1", "1a", "a1", "(", ")", ",", "0x1", "1_0", "Inf", "NaN",
		"\x001", "1\x00", "\u0661", "1\u0662", "\xff", "\uff11", "\u22121", "1\u066b5", "1;", "1f", "1d5", "1e5f", "1/2", "1:2"} {
		if lex.Right(s) {
			t.Errorf("Right(%q)", s)
		}
	}
}

// P9.1: the place of what is wrong, be it the first byte or the last; of several, the first one's.
func TestPlaces(t *testing.T) {
	for s, place := range map[string]int{
		";": 0, ";;": 0, "; a": 0, "a;": 1, "a ;": 2, "a1;": 2, "1;": 1, "(;": 1, ",;1.2.3": 1, "1.2.3;": 0, " \t\r\n;": 4,
		"POINT(1 2);": 10, "POINT(1 2": -1, "1 2 .": 4, "1 2 . ": 4, "a\x80": 1, "\xc3\xa9": 0, "a\xc3\xa9": 1, "(1 2)\x00": 5,
		"a.": 1, "a.b": 1, "a-b": 1, "POINT (1 -)": 9, "x\x0b": 1, "_a": 0, "a_b": 1, "'a'": 0, "[1]": 0, "{": 0, "@": 0, "a`": 1, "1/": 1, "1:": 1,
	} {
		if place >= 0 {
			wrong(t, s, place)
		} else {
			told(t, s)
		}
	}
	long := strings.Repeat("ab 1.5,", 1000)
	wrong(t, long+"-", len(long))
	wrong(t, long+"!"+long, len(long))
	wrong(t, long+"2-1"+long, len(long))
	if _, place, e := lex.Tokens(long + "1e"); place != len(long) || e != api.ErrSyntax {
		t.Errorf("Tokens: %d, %d", place, e)
	}
}

// P9.1: a token's bytes; none, where From and To are no places of the text, or the one is behind the other.
func TestText(t *testing.T) {
	s := "ab\x80 1e5"
	odd := []int{math.MinInt, math.MinInt + 1, -8, -1, len(s) + 1, len(s) + 2, 2 * len(s), math.MaxInt - 1, math.MaxInt}
	for kind := -1; kind < 8; kind++ {
		for from := range len(s) + 1 {
			for to := range len(s) + 1 {
				text(t, lex.Token{Kind: kind, From: from, To: to}, s, s[min(from, to):to])
			}
			for _, place := range odd {
				text(t, lex.Token{Kind: kind, From: from, To: place}, s, "")
				text(t, lex.Token{Kind: kind, From: place, To: from}, s, "")
				for _, other := range odd {
					text(t, lex.Token{Kind: kind, From: place, To: other}, s, "")
				}
			}
		}
	}
	for _, from := range []int{-1, 0, 1} {
		for _, to := range []int{-1, 0, 1} {
			text(t, lex.Token{Kind: 1, From: from, To: to}, "", "")
		}
	}
	text(t, lex.Token{}, s, "")
}

// text holds what a token's Text tells against what it should.
func text(t *testing.T, token lex.Token, s, want string) {
	t.Helper()
	if got := token.Text(s); got != want {
		t.Errorf("%v.Text(%q): %q, not %q", token, s, got, want)
	}
}

// P9.2: a to z become A to Z; all other bytes stay, letters of other tongues and what is no right rune too.
func TestUpper(t *testing.T) {
	for s, want := range map[string]string{
		"": "", "a": "A", "z": "Z", "az": "AZ", "LineString": "LINESTRING", "EMPTY": "EMPTY", "1e5": "1E5", " a\tb ": " A\tB ",
		"@[`{": "@[`{", "\u00e9\u00df\u00ff\u0131\u017f\u03b1": "\u00e9\u00df\u00ff\u0131\u017f\u03b1", "\xe1a\xfa": "\xe1A\xfa", "\x80\xffz\xc3": "\x80\xffZ\xc3", "\x00a\x00": "\x00A\x00",
	} {
		if got := lex.Upper(s); got != want {
			t.Errorf("Upper(%q): %q, not %q", s, got, want)
		}
	}
	if s := strings.Repeat("aZ\x9f", 1<<16); lex.Upper(s) != strings.Repeat("AZ\x9f", 1<<16) {
		t.Error("Upper of a long text")
	}
}

// P9.2: All tells words in great letters, and each other token's text as it is, the e of a number too.
func TestAllTexts(t *testing.T) {
	all(t, "Point empTY(e 1e5,+2E-5) \x00", said{
		tokens: []lex.Token{{1, 0, 5}, {1, 6, 11}, {3, 11, 12}, {1, 12, 13}, {2, 14, 17}, {5, 17, 18}, {2, 18, 23}, {4, 23, 24}},
		texts:  []string{"POINT", "EMPTY", "(", "E", "1e5", ",", "+2E-5", ")"},
	})
}

// P9.2: All tells those tokens that stand ahead of the first one that is wrong, be it the first of all, in the middle or the
// last; no more than it is asked for; and begins anew with each loop.
func TestAllStopped(t *testing.T) {
	for _, s := range []string{
		"", " ", "a", "a (1 2, -3e4)", ";", "1e a", " 1-1", "a ; b", "a (1 2.3.4 5)", "a (1 2)\x80", "a,1,b,.", "a b 1e", "x;y;z",
	} {
		want := model(s)
		seq := lex.All(s)
		for most := 1; most <= len(want.tokens); most++ {
			n := 0
			for token, text := range seq {
				if token != want.tokens[n] || text != want.texts[n] {
					t.Errorf("All(%q), %d: %v, %q", s, n, token, text)
				}
				if n++; n == most {
					break
				}
			}
			if n != most {
				t.Errorf("All(%q): %d, not %d", s, n, most)
			}
		}
		all(t, s, want)
	}
}

// P9.2: loops over one answer of All within one another go on each by itself.
func TestAllWithinAll(t *testing.T) {
	seq := lex.All("a 1 (b")
	var got []string
	for _, x := range seq {
		for _, y := range seq {
			got = append(got, x+y)
			if y == "1" {
				break
			}
		}
	}
	if want := []string{"AA", "A1", "1A", "11", "(A", "(1", "BA", "B1"}; !slices.Equal(got, want) {
		t.Errorf("All: %q, not %q", got, want)
	}
}

// P9.1: what Tokens tells is new memory: whoever writes into it, or into its spare room, changes nothing of another answer.
func TestNewMemory(t *testing.T) {
	for n := range 20 {
		s := strings.Repeat("ab 1,", n)
		got, _, _ := lex.Tokens(s)
		twin, _, _ := lex.Tokens(s)
		want := slices.Clone(got)
		got = got[:cap(got)]
		for i := range got {
			got[i] = lex.Token{Kind: -1, From: -1, To: -1}
		}
		if !slices.Equal(twin, want) {
			t.Errorf("Tokens(%q): %v, not %v", s, twin, want)
		}
		tokens(t, s, model(s))
	}
}

// P1, P9.1, P9.2: long texts: many tokens, and such as are long themselves, right and wrong.
func TestLong(t *testing.T) {
	const n = 1 << 20
	for s, count := range map[string]int{
		strings.Repeat("(", n): n, strings.Repeat(" ", n): 0, strings.Repeat("a", n): 1, strings.Repeat("1", n): 1, strings.Repeat("a1", n): 2 * n,
		"-" + strings.Repeat("0", n) + "." + strings.Repeat("9", n) + "e-" + strings.Repeat("8", n): 1,
		strings.Repeat("1", n) + ".": 1, strings.Repeat("-1 ", n): n,
	} {
		l, place, e := lex.Tokens(s)
		if len(l) != count || place != 0 || e != api.OK {
			t.Errorf("Tokens(%q ..): %d tokens, %d, %d", s[:9], len(l), place, e)
		}
	}
	for _, s := range []string{strings.Repeat("e", n), strings.Repeat("-", n), strings.Repeat(".", n), strings.Repeat("1", n) + "-", strings.Repeat("1e", n), strings.Repeat("0", n) + "\x80"} {
		if lex.Right(s) {
			t.Errorf("Right(%q ..)", s[:9])
		}
	}
	wrong(t, strings.Repeat("1", n)+"e", 0)
	wrong(t, strings.Repeat("(", n)+"\x80", n)
}
