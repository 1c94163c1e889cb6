package wkt_test

import (
	"fmt"
	"regexp"
	"strconv"
	"strings"
	"testing"

	"groma/api"
	"groma/wkt"
)

// kinds are the words, as the chapter has them.
var kinds = map[string]int{
	"POINT":              wkt.Point,
	"LINESTRING":         wkt.LineString,
	"POLYGON":            wkt.Polygon,
	"MULTIPOINT":         wkt.MultiPoint,
	"MULTILINESTRING":    wkt.MultiLineString,
	"MULTIPOLYGON":       wkt.MultiPolygon,
	"GEOMETRYCOLLECTION": wkt.Collection,
}

// alphabet are tokens that may stand in a text, 0 for any number, and what may not: a word of nothing, no token, no number.
var alphabet = []string{
	"POINT", "LINESTRING", "POLYGON", "MULTIPOINT", "MULTILINESTRING", "MULTIPOLYGON", "GEOMETRYCOLLECTION", "EMPTY",
	"0", "(", ")", ",", "RING", ";", "1e",
}

// samples are right texts in which all that the chapter names stands, with blanks where they are needed alone.
var samples = []string{
	"POINT(1 2)",
	"POINT EMPTY",
	"LINESTRING(1 2)",
	"LINESTRING(1 2,3 4,5 6)",
	"LINESTRING EMPTY",
	"POLYGON((1 2,3 4,5 6,1 2),(7 8),EMPTY)",
	"POLYGON(EMPTY)",
	"POLYGON EMPTY",
	"MULTIPOINT((1 2),EMPTY,(3 4))",
	"MULTIPOINT EMPTY",
	"MULTILINESTRING((1 2,3 4),EMPTY,(5 6))",
	"MULTILINESTRING EMPTY",
	"MULTIPOLYGON(((1 2,3 4),(5 6)),EMPTY,(EMPTY,(7 8)),(EMPTY))",
	"MULTIPOLYGON EMPTY",
	"GEOMETRYCOLLECTION EMPTY",
	"GEOMETRYCOLLECTION(POINT(1 2))",
	"GEOMETRYCOLLECTION(POINT(1 2),GEOMETRYCOLLECTION EMPTY,GEOMETRYCOLLECTION(LINESTRING(3 4,5 6),POLYGON EMPTY),MULTIPOINT(EMPTY))",
}

// pairs are the ones of these numbers' texts.
func pairs(numbers ...string) []wkt.Pair {
	var l []wkt.Pair
	for n := 0; n < len(numbers); n += 2 {
		l = append(l, wkt.Pair{X: numbers[n], Y: numbers[n+1]})
	}
	return l
}

// lists are these ones.
func lists(l ...[]wkt.Pair) [][]wkt.Pair { return l }

// shown is a list of geometries as a text; nil and empty lists are one.
func shown(l []wkt.Geo) string { return fmt.Sprint(l) }

// told holds what Parse tells of a right text against this.
func told(t *testing.T, s string, want ...wkt.Geo) {
	t.Helper()
	l, place, e := wkt.Parse(s)
	if shown(l) != shown(want) || place != 0 || e != api.OK {
		t.Errorf("Parse(%.200q): %.200s, %d, %d, not %.200s", s, shown(l), place, e, shown(want))
	}
}

// refused holds what Parse tells of a wrong text against this place.
func refused(t *testing.T, s string, want int) {
	t.Helper()
	l, place, e := wkt.Parse(s)
	if len(l) != 0 || place != want || e != api.ErrSyntax {
		t.Errorf("Parse(%.200q): %.200s, %d, %d, not at %d", s, shown(l), place, e, want)
	}
}

// whole holds what Parse tells of any text against what it should.
func whole(t *testing.T, s string) {
	t.Helper()
	if place := wrong(s); place >= 0 {
		refused(t, s, place)
		return
	}
	told(t, s, read(s, 0)...)
}

// tokens are those of a text.
func tokens(s string) []string { return pieces.FindAllString(s, -1) }

// joined is a text of these tokens, with blanks between them; each number is another one.
func joined(tokens []string) string {
	var l []string
	for n, token := range tokens {
		if token == "0" {
			token = strconv.Itoa(n)
		}
		l = append(l, token)
	}
	return strings.Join(l, " ")
}

// with are the tokens of l, in which these stand in the place of those from one up to, without, another.
func with(l []string, from, to int, these ...string) []string {
	return append(append(append([]string(nil), l[:from]...), these...), l[to:]...)
}

// deep is a text in so many collections.
func deep(n int, inner string) string {
	return strings.Repeat("GEOMETRYCOLLECTION(", n) + inner + strings.Repeat(")", n)
}

var word = regexp.MustCompile(`[A-Z]{2,}`) // and not the E of a number
