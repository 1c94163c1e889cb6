package wkt_test

import (
	"fmt"
	"regexp"
	"strings"

	"groma/api"
	"groma/wkt"
)

// What the chapter says of bodies, part by part: what each may be; a 0 stands for any number.
const bodies = `
pair: 0 0
pairs: pair | pair , pairs
point: EMPTY | ( pair )
points: point | point , points
line: EMPTY | ( pairs )
lines: line | line , lines
polygon: EMPTY | ( lines )
polygons: polygon | polygon , polygons
several-points: EMPTY | ( points )
several-lines: EMPTY | ( lines )
several-polygons: EMPTY | ( polygons )
`

// What it says of geometries in so many collections; and what else they may be, where one more may stand.
const (
	geometries = `
geometries-%[1]d: geometry-%[1]d | geometry-%[1]d , geometries-%[1]d
geometry-%[1]d: POINT point | LINESTRING line | POLYGON polygon | MULTIPOINT several-points | MULTILINESTRING several-lines | MULTIPOLYGON several-polygons`
	collections = ` | GEOMETRYCOLLECTION EMPTY | GEOMETRYCOLLECTION ( geometries-%d )`
)

// grammar is all this: for each part the rules by which it may be found.
var grammar = func() map[string][][]string {
	text := bodies
	for level := range api.MaxNest + 1 {
		text += fmt.Sprintf(geometries, level)
		if level < api.MaxNest {
			text += fmt.Sprintf(collections, level+1)
		}
	}
	all := map[string][][]string{}
	for line := range strings.Lines(text) {
		part, rules, _ := strings.Cut(line, ":")
		for rule := range strings.SplitSeq(rules, "|") {
			all[part] = append(all[part], strings.Fields(rule))
		}
	}
	return all
}()

// item is a part that may have begun at a place, by one of its rules, of which so much is there.
type item struct {
	part             string
	rule, from, done int
}

// ahead is what must come next in it; nothing, if all is there.
func (i item) ahead() string {
	if rule := grammar[i.part][i.rule]; i.done < len(rule) {
		return rule[i.done]
	}
	return ""
}

// chart is what may have been found ahead of a text's first token, and behind each one: behind the last one nothing, if
// that can't stand there.
type chart [][]item

func opened() chart { return chart{}.grown(begun("geometry-0", 0)) }

// behind is the chart with one token more.
func (c chart) behind(token string) chart { return c.grown(passed(c.last(), token)) }

func (c chart) last() []item { return c[len(c)-1] }

// whole is whether the text may end where the chart does.
func (c chart) whole() bool {
	for _, i := range c.last() {
		if i.part == "geometry-0" && i.ahead() == "" {
			return true
		}
	}
	return false
}

// grown is the chart with one place more: what is found there, and what begins or is complete with that.
func (c chart) grown(found []item) chart {
	seen := map[item]bool{}
	var all []item
	for len(found) > 0 {
		i := found[0]
		found = found[1:]
		if seen[i] {
			continue
		}
		seen[i] = true
		all = append(all, i)
		if next := i.ahead(); next != "" {
			found = append(found, begun(next, len(c))...)
		} else {
			found = append(found, passed(c[i.from], i.part)...)
		}
	}
	return append(c[:len(c):len(c)], all)
}

// begun are the ways in which a part may begin at a place; a token has none.
func begun(part string, from int) []item {
	var l []item
	for rule := range grammar[part] {
		l = append(l, item{part, rule, from, 0})
	}
	return l
}

// passed are those of l in which this must come next, with it.
func passed(l []item, next string) []item {
	var some []item
	for _, i := range l {
		if i.ahead() == next {
			i.done++
			some = append(some, i)
		}
	}
	return some
}

// What layer 9's chapter says of tokens.
var (
	pieces  = regexp.MustCompile(`[A-Za-z]+|[-+.0-9][-+.0-9eE]*|[^ \t\r\n]`)
	numbers = regexp.MustCompile(`^[-+]?([0-9]+\.?[0-9]*|\.[0-9]+)([eE][-+]?[0-9]+)?$`)
	letters = regexp.MustCompile(`^[A-Za-z]+$`)
)

// wrong is the place at which a text should be refused; -1, if it is right.
func wrong(s string) int {
	c := opened()
	for _, at := range pieces.FindAllStringIndex(s, -1) {
		c = c.behind(sign(s[at[0]:at[1]]))
		if len(c.last()) == 0 {
			return at[0]
		}
	}
	if c.whole() {
		return -1
	}
	return len(s)
}

// sign is what the grammar has for a token.
func sign(token string) string {
	if numbers.MatchString(token) {
		return "0"
	}
	if letters.MatchString(token) {
		return strings.ToUpper(token)
	}
	return token
}

// read is what should be read of a right text that stands in so many collections: the text is cut at its outer commas,
// and each piece again, with nothing asked of them.
func read(s string, level int) []wkt.Geo {
	at := pieces.FindStringIndex(s)
	g := wkt.Geo{Kind: kinds[strings.ToUpper(s[at[0]:at[1]])], Level: level}
	var inner []wkt.Geo
	for n, part := range parts(s[at[1]:]) {
		switch {
		case g.Kind == wkt.Collection:
			inner = append(inner, read(part, level+1)...)
		case g.Kind == wkt.MultiPolygon:
			for _, ring := range parts(part) {
				g.Lists = append(g.Lists, list(ring))
			}
			g.Sizes = append(g.Sizes, len(parts(part)))
		case g.Kind >= wkt.Polygon:
			g.Lists = append(g.Lists, list(part))
		case n == 0:
			g.Lists = [][]wkt.Pair{list(s[at[1]:])}
		}
	}
	return append([]wkt.Geo{g}, inner...)
}

// parts are what stands in a body's brackets, between their commas.
func parts(body string) []string {
	body = strings.TrimSpace(body)
	if strings.EqualFold(body, "EMPTY") {
		return nil
	}
	var l []string
	depth, from := 0, 1
	for at, c := range body {
		switch {
		case c == ',' && depth == 1, c == ')' && depth == 1:
			l = append(l, body[from:at])
			from = at + 1
		}
		switch c {
		case '(':
			depth++
		case ')':
			depth--
		}
	}
	return l
}

func list(body string) []wkt.Pair {
	var l []wkt.Pair
	for _, part := range parts(body) {
		pair := strings.Fields(part)
		l = append(l, wkt.Pair{X: pair[0], Y: pair[1]})
	}
	return l
}
