package wkt_test

import (
	"math"
	"slices"
	"strings"
	"testing"

	"groma/api"
	"groma/wkt"
)

// P11.1: all texts of few tokens, and longer ones as far as they might go on.
func TestAllSmall(t *testing.T) { further(t, nil, opened(), 11) }

// further goes from a text that might go on to all that are one token longer, and from those on.
func further(t *testing.T, l []string, c chart, most int) {
	for _, token := range alphabet {
		longer := with(l, len(l), len(l), token)
		s := joined(longer)
		next := c.behind(token)
		switch {
		case len(next.last()) == 0:
			place := strings.LastIndex(s, " ") + 1
			refused(t, s, place)
			refused(t, s+" ;", place)
			continue
		case next.whole():
			told(t, s, read(s, 0)...)
		default:
			refused(t, s, len(s))
		}
		if len(longer) < most {
			further(t, longer, next, most)
		}
	}
}

// P11.1: each kind, with each body that it may have.
func TestBodies(t *testing.T) {
	one, two := pairs("1", "2"), pairs("1", "2", "3", "4")
	told(t, "POINT(1 2)", wkt.Geo{Kind: wkt.Point, Lists: lists(one)})
	told(t, "LINESTRING(1 2)", wkt.Geo{Kind: wkt.LineString, Lists: lists(one)})
	told(t, "LINESTRING(1 2,3 4,1 2)", wkt.Geo{Kind: wkt.LineString, Lists: lists(pairs("1", "2", "3", "4", "1", "2"))})
	told(t, "POLYGON((1 2))", wkt.Geo{Kind: wkt.Polygon, Lists: lists(one)})
	told(t, "POLYGON((1 2,3 4),EMPTY,(1 2))", wkt.Geo{Kind: wkt.Polygon, Lists: lists(two, nil, one)})
	told(t, "POLYGON(EMPTY)", wkt.Geo{Kind: wkt.Polygon, Lists: lists(nil)})
	told(t, "MULTIPOINT((1 2))", wkt.Geo{Kind: wkt.MultiPoint, Lists: lists(one)})
	told(t, "MULTIPOINT(EMPTY,(1 2),EMPTY)", wkt.Geo{Kind: wkt.MultiPoint, Lists: lists(nil, one, nil)})
	told(t, "MULTILINESTRING((1 2))", wkt.Geo{Kind: wkt.MultiLineString, Lists: lists(one)})
	told(t, "MULTILINESTRING(EMPTY,(1 2,3 4),(1 2))", wkt.Geo{Kind: wkt.MultiLineString, Lists: lists(nil, two, one)})
	told(t, "MULTIPOLYGON(((1 2)))", wkt.Geo{Kind: wkt.MultiPolygon, Lists: lists(one), Sizes: []int{1}})
	told(t, "MULTIPOLYGON(EMPTY)", wkt.Geo{Kind: wkt.MultiPolygon, Sizes: []int{0}})
	told(t, "MULTIPOLYGON((EMPTY))", wkt.Geo{Kind: wkt.MultiPolygon, Lists: lists(nil), Sizes: []int{1}})
	told(t, "MULTIPOLYGON(EMPTY,((1 2),EMPTY,(1 2,3 4)),EMPTY,EMPTY,((1 2)))",
		wkt.Geo{Kind: wkt.MultiPolygon, Lists: lists(one, nil, two, one), Sizes: []int{0, 3, 0, 0, 1}})
	for word, kind := range kinds {
		told(t, word+" EMPTY", wkt.Geo{Kind: kind})
	}
}

// P11.1: words in small, great and mixed letters.
func TestLetters(t *testing.T) {
	mixed := func(s string) string { return s[:1] + strings.ToLower(s[1:len(s)-1]) + s[len(s)-1:] }
	for _, s := range samples {
		for _, other := range []func(string) string{strings.ToLower, mixed} {
			told(t, word.ReplaceAllStringFunc(s, other), read(s, 0)...)
		}
	}
	told(t, "pOiNt(1E2 1e2)", wkt.Geo{Kind: wkt.Point, Lists: lists(pairs("1E2", "1e2"))})
}

// P11.1: blanks of every kind, and as many as may be, between tokens and around them; and none where none is needed.
func TestBlanks(t *testing.T) {
	for _, s := range samples {
		told(t, s, read(s, 0)...)
		for _, blank := range []string{" ", "\t", "\r", "\n", " \t\r\n \n"} {
			apart := blank + strings.Join(tokens(s), blank) + blank
			told(t, apart, read(s, 0)...)
			refused(t, apart+")"+blank, len(apart))
		}
	}
	for _, blank := range []string{"\v", "\f", "\x00", "\xa0", "\u00a0", "\u2003", "\ufeff"} {
		refused(t, blank+"POINT(1 2)", 0)
		refused(t, "POINT"+blank+"(1 2)", 5)
		refused(t, "POINT(1"+blank+"2)", 7)
		refused(t, "POINT(1 2)"+blank, 10)
	}
}

// P11.1: numbers, told as they stand.
func TestNumbers(t *testing.T) {
	l := []string{"0", "-0", "+0", "007", "1.", ".5", "-.5", "+1.50", "1e5", "1E5", "1e+05", "-1.e-5", ".0E-0", "1e99999999999999999999", strings.Repeat("9", 500)}
	for _, x := range l {
		for _, y := range l {
			told(t, "POINT("+x+" "+y+")", wkt.Geo{Kind: wkt.Point, Lists: lists(pairs(x, y))})
			told(t, "MULTIPOLYGON(EMPTY,(("+y+"\t"+x+" ) ) )", wkt.Geo{Kind: wkt.MultiPolygon, Lists: lists(pairs(y, x)), Sizes: []int{0, 1}})
		}
	}
	for _, x := range []string{".", "+", "-", "1e", "1e+", "1.5e.", "1.2.3", "--1", "1-2", "+-1", "1e5e5", "5east", "1ex"} {
		refused(t, "POINT("+x+" 2)", 6)
		refused(t, "POINT(1 "+x+")", 8)
		refused(t, x, 0)
	}
	for _, x := range []string{"e5", "NaN", "inf", "x", "*", "'1'", "EMPTY"} {
		refused(t, "POINT("+x+" 2)", 6)
		refused(t, "POINT(1 "+x+")", 8)
	}
	refused(t, "POINT(0x10 2)", 7)
	refused(t, "POINT(1,5 2)", 7)
	refused(t, "POINT(1_000 2)", 7)
	refused(t, "POINT(10)", 8)
}

// P11.1: each geometry of a collection ahead of those that are in it, one behind the other, with its level.
func TestCollections(t *testing.T) {
	told(t, "GEOMETRYCOLLECTION(POINT(1 2), LINESTRING EMPTY)", wkt.Geo{Kind: wkt.Collection},
		wkt.Geo{Kind: wkt.Point, Level: 1, Lists: lists(pairs("1", "2"))}, wkt.Geo{Kind: wkt.LineString, Level: 1})
	told(t, "GEOMETRYCOLLECTION(GEOMETRYCOLLECTION EMPTY)", wkt.Geo{Kind: wkt.Collection}, wkt.Geo{Kind: wkt.Collection, Level: 1})
	told(t, "GEOMETRYCOLLECTION(GEOMETRYCOLLECTION(GEOMETRYCOLLECTION(POINT EMPTY),POLYGON EMPTY,GEOMETRYCOLLECTION EMPTY,MULTIPOINT EMPTY),GEOMETRYCOLLECTION(MULTIPOLYGON(EMPTY)),MULTILINESTRING(EMPTY))",
		wkt.Geo{Kind: wkt.Collection}, wkt.Geo{Kind: wkt.Collection, Level: 1}, wkt.Geo{Kind: wkt.Collection, Level: 2},
		wkt.Geo{Kind: wkt.Point, Level: 3}, wkt.Geo{Kind: wkt.Polygon, Level: 2}, wkt.Geo{Kind: wkt.Collection, Level: 2},
		wkt.Geo{Kind: wkt.MultiPoint, Level: 2}, wkt.Geo{Kind: wkt.Collection, Level: 1},
		wkt.Geo{Kind: wkt.MultiPolygon, Level: 2, Sizes: []int{0}}, wkt.Geo{Kind: wkt.MultiLineString, Level: 1, Lists: lists(nil)})
	all := strings.Join(samples, ",")
	want := []wkt.Geo{{Kind: wkt.Collection}}
	for _, s := range samples {
		want = append(want, read(s, 1)...)
	}
	told(t, deep(1, all), want...)
}

// P11.1: as many collections in one another as may be, and one more, which can't stand where it does.
func TestNest(t *testing.T) {
	const most = api.MaxNest
	for n := range most + 1 {
		for _, inner := range []string{"POINT(1 2)", "MULTIPOLYGON EMPTY", deep(most-n, "POINT EMPTY")} {
			s := deep(n, inner)
			told(t, s, read(s, 0)...)
		}
	}
	s := deep(1, deep(most-1, "POINT(1 2),LINESTRING EMPTY")+","+deep(most-2, "GEOMETRYCOLLECTION EMPTY")+",POINT EMPTY")
	told(t, s, read(s, 0)...)
	place := len(deep(most, "")) - most
	for _, inner := range []string{"GEOMETRYCOLLECTION EMPTY", deep(1, "POINT EMPTY"), "GEOMETRYCOLLECTION", "GEOMETRYCOLLECTION;", strings.Repeat("GEOMETRYCOLLECTION(", 1<<12)} {
		refused(t, deep(most, inner), place)
		refused(t, deep(most, "POINT EMPTY,"+inner), place+len("POINT EMPTY,"))
	}
}

// P11.1: texts of nothing.
func TestNothing(t *testing.T) {
	for n := range 6 {
		for _, blank := range []string{" ", "\t", "\r", "\n"} {
			refused(t, strings.Repeat(blank, n), n)
		}
	}
}

// P11.1: texts cut off at each byte, behind a token and within one; and with a byte there at which no token begins.
func TestCutOff(t *testing.T) {
	for _, s := range samples {
		apart := strings.Join(tokens(s), " ")
		for n := range len(apart) {
			whole(t, apart[:n])
			whole(t, apart[:n]+";"+apart[n:])
		}
		for n := range len(s) {
			whole(t, s[:n])
			whole(t, s[:n]+"\xff"+s[n:])
		}
	}
	refused(t, "POIN", 0)
	refused(t, "POINT", 5)
	refused(t, "POINT(", 6)
	refused(t, "POINT(1", 7)
	refused(t, "POINT(1 ", 8)
	refused(t, "POINT(1 2", 9)
	refused(t, "POINT(1 2\n\n", 11)
	refused(t, "POINT EMPT", 6)
	refused(t, "POINT(1 2e", 8)
}

// P11.1: each token taken away, doubled, and changed for each other.
func TestChanged(t *testing.T) {
	for _, s := range samples {
		l := tokens(s)
		for n := range l {
			whole(t, joined(with(l, n, n+1)))
			whole(t, joined(with(l, n, n+1, l[n], l[n])))
			for _, token := range alphabet {
				whole(t, joined(with(l, n, n+1, token)))
				whole(t, joined(with(l, n, n, token)))
			}
		}
	}
}

// P11.1: of two tokens that can't stand there, the one that stands further ahead is told.
func TestChangedTwice(t *testing.T) {
	for _, s := range samples[:len(samples)-1] {
		l := tokens(s)
		for n := range l {
			for m := range n {
				for _, token := range []string{";", "1e", ")", "POINT"} {
					whole(t, joined(with(with(l, n, n+1, token), m, m+1, "EMPTY")))
					whole(t, joined(with(with(l, n, n, token), m, m, "(")))
					whole(t, joined(with(with(l, n, n, ","), m, m, token)))
				}
			}
		}
	}
}

// P11.1: the places of what can't stand there, by hand.
func TestPlaces(t *testing.T) {
	for s, place := range map[string]int{
		// words
		"PONT(1 2)": 0, "POINTS(1 2)": 0, "POINTEMPTY": 0, "POIN T(1 2)": 0, "MULTI POINT EMPTY": 0, "EMPTY": 0, "POINTZ(1 2 3)": 0, "POINT Z(1 2 3)": 6,
		"LINEARRING(1 2)": 0, "COLLECTION EMPTY": 0, "TRIANGLE EMPTY": 0, "SRID=1;POINT(1 2)": 0, "POINT EMPTYS": 6, "POINT EMPT": 6, "POINT POINT": 6,
		"1": 0, "(": 0, "(POINT(1 2))": 0, "POINT 1 2": 6, "LINESTRING EMPTY(1 2)": 16, "GEOMETRYCOLLECTION(PONT(1 2))": 19, "GEOMETRYCOLLECTION(EMPTY)": 19,
		// numbers
		"POINT()": 6, "POINT(1)": 7, "POINT(1 2 3)": 10, "POINT(1 2 3 4)": 10, "POINT(1,2)": 7, "LINESTRING(1 2,3)": 16, "LINESTRING(1 2,3 4 5)": 19, "LINESTRING(1,2)": 12, "MULTIPOINT((1 2 3))": 16,
		// commas
		"LINESTRING(1 2 3 4)": 15, "LINESTRING(1 2,,3 4)": 15, "LINESTRING(,1 2)": 11, "LINESTRING(1 2,)": 15, "POINT(1 2,3 4)": 9, "POINT(1 2,)": 9, "MULTIPOINT((1 2,3 4))": 15,
		"POLYGON((1 2)(3 4))": 13, "POLYGON((1 2),)": 14, "MULTIPOLYGON(((1 2))((3 4)))": 20, "GEOMETRYCOLLECTION(POINT EMPTY POINT EMPTY)": 31, "GEOMETRYCOLLECTION(POINT EMPTY,)": 31, "GEOMETRYCOLLECTION(,)": 19, "POINT,": 5,
		// brackets
		"POINT((1 2))": 6, "POINT(1 2))": 10, "POINT)1 2(": 5, "LINESTRING((1 2))": 11, "LINESTRING()": 11, "POLYGON()": 8, "POLYGON(())": 9, "POLYGON(1 2)": 8, "POLYGON((1 2)": 13, "POLYGON(((1 2)))": 9,
		"MULTIPOINT()": 11, "MULTIPOINT(1 2)": 11, "MULTIPOINT(1 2,3 4)": 11, "MULTILINESTRING(1 2)": 16, "MULTIPOLYGON((1 2))": 14, "MULTIPOLYGON(())": 14, "MULTIPOLYGON((()))": 15, "MULTIPOLYGON((((1 2))))": 15,
		"GEOMETRYCOLLECTION()": 19, "GEOMETRYCOLLECTION((POINT EMPTY))": 19, "GEOMETRYCOLLECTION(POINT EMPTY": 30, "GEOMETRYCOLLECTION POINT EMPTY": 19, "GEOMETRYCOLLECTION EMPTY)": 24, "GEOMETRYCOLLECTION(POINT EMPTY))": 31,
		// nothing where something must be
		"LINESTRING(EMPTY)": 11, "POINT(EMPTY)": 6, "POLYGON((EMPTY))": 9, "MULTIPOINT((EMPTY))": 12, "MULTILINESTRING((EMPTY))": 17, "MULTIPOLYGON(((EMPTY)))": 15, "LINESTRING(1 2,EMPTY)": 15,
		// behind a whole one
		"POINT EMPTY EMPTY": 12, "POINT(1 2)POINT(1 2)": 10, "POINT(1 2),POINT(1 2)": 10, "POINT(1 2) 3": 11, "POINT(1 2);": 10, "POINT(1 2) 1e": 11, "POINT EMPTY(1 2)": 11, "GEOMETRYCOLLECTION EMPTY;": 24,
		// no token
		";": 0, "POINT;(": 5, "POINT);(": 5, "POINT(1 2;)": 9, "POINT(1 2 3;": 10, "POINT(1;2": 7, "POINT(1 2;": 9, "P\u00f6INT(1 2)": 0, "POINT\u00f6(1 2)": 5, "POINT(1 2)\x00": 10, "LINESTRING;": 10, "PONT;": 0, ";PONT": 0,
		"POINT(1 2e) ;": 8, "POINT(1 ; 2e)": 8, "POINT 1e": 6, "POINT ) 1e": 6,
	} {
		refused(t, s, place)
		whole(t, s)
	}
}

// P11.2: the word of each kind, and the kind of each word.
func TestNameAndKind(t *testing.T) {
	for word, kind := range kinds {
		if got := wkt.Name(kind); got != word {
			t.Errorf("Name(%d): %q, not %q", kind, got, word)
		}
		for n := range len(word) + 1 {
			isKind(t, strings.ToLower(word[:n])+word[n:], kind)
			isKind(t, word[:n]+strings.ToLower(word[n:]), kind)
		}
	}
	for _, kind := range []int{0, -1, 8, 9, 100, math.MaxInt, math.MinInt, math.MaxInt - 6, 1 << 32, 1<<32 + 1, -7} {
		if got := wkt.Name(kind); got != "" {
			t.Errorf("Name(%d): %q", kind, got)
		}
	}
}

// isKind holds what Kind tells of a word against this; 0: it is none's.
func isKind(t *testing.T, word string, want int) {
	t.Helper()
	if kind, ok := wkt.Kind(word); kind != want || ok != (want != 0) {
		t.Errorf("Kind(%q): %d, %v, not %d", word, kind, ok, want)
	}
}

// P11.2: texts that are nearly a kind's word.
func TestNoKind(t *testing.T) {
	for word := range kinds {
		for n := range word {
			isKind(t, word[:n], 0)
			isKind(t, word[:n]+"?"+word[n+1:], 0)
			isKind(t, word[:n]+" "+word[n:], 0)
			isKind(t, word[:n]+word[n:n+1]+word[n:], 0)
		}
		for _, more := range []string{" ", "S", "Z", "(", "\x00", "\n", word} {
			isKind(t, word+more, 0)
			isKind(t, more+word, 0)
		}
	}
	for _, word := range []string{"", " ", "EMPTY", "empty", "1", "(", "COLLECTION", "LINE", "STRING", "MULTI", "MULTICOLLECTION", "GEOMETRY", "P\u00d6INT", "PO\u0131NT", "L\u0130NESTRING", "L\u0131NESTRING", "LINE\u017fTRING", "\xff"} {
		isKind(t, word, 0)
	}
}

// P11.2: geometries that part in one thing alone aren't the same.
func TestEqual(t *testing.T) {
	l := []wkt.Geo{
		{},
		{Kind: 1},
		{Kind: -1},
		{Level: 1},
		{Level: math.MinInt},
		{Kind: 1, Level: 1},
		{Lists: lists(nil)},
		{Lists: lists(nil, nil)},
		{Lists: lists(pairs("1", "2"))},
		{Lists: lists(pairs("1", "2"), nil)},
		{Lists: lists(nil, pairs("1", "2"))},
		{Lists: lists(pairs("2", "1"))},
		{Lists: lists(pairs("1", "2.0"))},
		{Lists: lists(pairs("+1", "2"))},
		{Lists: lists(pairs("1", ""))},
		{Lists: lists(pairs("", "12"))},
		{Lists: lists(pairs("1", "2", "3", "4"))},
		{Lists: lists(pairs("3", "4", "1", "2"))},
		{Lists: lists(pairs("1", "2"), pairs("3", "4"))},
		{Lists: lists(pairs("3", "4"), pairs("1", "2"))},
		{Sizes: []int{0}},
		{Sizes: []int{0, 0}},
		{Sizes: []int{1}},
		{Sizes: []int{1, 2}},
		{Sizes: []int{2, 1}},
		{Kind: 6, Level: 3, Lists: lists(pairs("1", "2"), nil), Sizes: []int{0, 2}},
		{Kind: 6, Level: 3, Lists: lists(pairs("1", "2"), nil), Sizes: []int{2, 0}},
		{Kind: 6, Level: 2, Lists: lists(pairs("1", "2"), nil), Sizes: []int{0, 2}},
		{Kind: 5, Level: 3, Lists: lists(pairs("1", "2"), nil), Sizes: []int{0, 2}},
		{Kind: 6, Level: 3, Lists: lists(nil, pairs("1", "2")), Sizes: []int{0, 2}},
	}
	for n, g := range l {
		for m, o := range l {
			if got := g.Equal(o); got != (n == m) {
				t.Errorf("%v.Equal(%v): %v", g, o, got)
			}
		}
		if !g.Equal(copied(l[n : n+1])[0]) {
			t.Errorf("%v isn't equal to its copy", g)
		}
	}
}

// P11.2: nil and empty lists are one.
func TestEqualOfNothing(t *testing.T) {
	for _, same := range [][]wkt.Geo{
		{{}, {Lists: lists()}, {Lists: [][]wkt.Pair{}}, {Sizes: []int{}}, {Lists: make([][]wkt.Pair, 0, 5), Sizes: make([]int, 0, 5)}},
		{{Lists: lists(nil)}, {Lists: lists([]wkt.Pair{})}, {Lists: lists(make([]wkt.Pair, 0, 5)), Sizes: []int{}}},
		{{Sizes: []int{0}}, {Lists: [][]wkt.Pair{}, Sizes: []int{0}}},
	} {
		for _, g := range same {
			for _, o := range same {
				if !g.Equal(o) {
					t.Errorf("%v.Equal(%v)", g, o)
				}
			}
		}
	}
}

// listed are all pairs of all lists.
func listed(l []wkt.Geo) []wkt.Pair {
	all := []wkt.Pair{}
	for _, g := range l {
		for _, list := range g.Lists {
			all = append(all, list...)
		}
	}
	return all
}

// P11.2: Pairs as a whole, stopped behind each pair, and called again, ranged over again and within itself.
func TestPairs(t *testing.T) {
	for _, s := range append(samples, deep(1, strings.Join(samples, ","))) {
		l := read(s, 0)
		want := listed(l)
		seq := wkt.Pairs(l)
		for n := range len(want) + 1 {
			if got := first(seq, n); !slices.Equal(got, want[:n]) {
				t.Errorf("Pairs of %s: %v, not %v", s, got, want[:n])
			}
			if got := first(wkt.Pairs(l), n); !slices.Equal(got, want[:n]) {
				t.Errorf("Pairs of %s: %v, not %v", s, got, want[:n])
			}
		}
		count := 0
		for range seq {
			for range seq {
				count++
			}
		}
		if got := slices.Collect(seq); !slices.Equal(got, want) || count != len(want)*len(want) {
			t.Errorf("Pairs of %s: %v, %d", s, got, count)
		}
	}
}

// first are the first n of the pairs that are told.
func first(seq func(func(wkt.Pair) bool), n int) []wkt.Pair {
	var l []wkt.Pair
	for p := range seq {
		if len(l) == n {
			break
		}
		l = append(l, p)
	}
	return l
}

// P11.2: Pairs of no geometries, of ones without lists, of empty lists, and of such as no text is read as.
func TestPairsOfOthers(t *testing.T) {
	for _, l := range [][]wkt.Geo{
		nil, {}, {{}}, {{}, {}, {Kind: 7}}, {{Lists: lists()}}, {{Lists: lists(nil)}, {Lists: lists(nil, []wkt.Pair{})}, {Sizes: []int{1, 2}}},
		{{Lists: lists(nil, pairs("1", "2"), nil)}, {}, {Lists: lists(pairs("3", "4"))}},
		{{Kind: -1, Level: 99, Lists: lists(pairs("", "x", "EMPTY", ")")), Sizes: []int{-5}}, {Kind: 7, Lists: lists(pairs("1", "2"))}},
	} {
		if got := slices.Collect(wkt.Pairs(l)); !slices.Equal(got, listed(l)) {
			t.Errorf("Pairs(%v): %v", l, got)
		}
	}
}

// P1, P11.1: long texts, right and wrong.
func TestLong(t *testing.T) {
	const n = 1 << 16
	line := strings.Repeat("1 2,", n) + "3 4"
	l, _, e := wkt.Parse("LINESTRING(" + line + ")")
	if e != api.OK || len(l) != 1 || len(l[0].Lists) != 1 || len(l[0].Lists[0]) != n+1 || l[0].Lists[0][n] != (wkt.Pair{X: "3", Y: "4"}) {
		t.Errorf("Parse: %d", e)
	}
	l, _, e = wkt.Parse("MULTIPOLYGON(" + strings.Repeat("EMPTY,((1 2),EMPTY),", n) + "EMPTY)")
	if e != api.OK || len(l) != 1 || len(l[0].Lists) != 2*n || len(l[0].Sizes) != 2*n+1 {
		t.Errorf("Parse: %d", e)
	}
	l, _, e = wkt.Parse(deep(1, strings.Repeat("GEOMETRYCOLLECTION(POINT EMPTY),", n)+"POINT EMPTY"))
	if e != api.OK || len(l) != 2*n+2 || l[2*n].Level != 2 || l[2*n+1].Level != 1 {
		t.Errorf("Parse: %d", e)
	}
	refused(t, "LINESTRING("+line, len("LINESTRING(")+len(line))
	refused(t, "LINESTRING("+line+",)", len("LINESTRING(,")+len(line))
	refused(t, strings.Repeat("P", n), 0)
	refused(t, "POINT"+strings.Repeat("(", n), 6)
	refused(t, strings.Repeat(" ", n), n)
	refused(t, "POINT("+strings.Repeat("9", n)+" 1", n+8)
}
