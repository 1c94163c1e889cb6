package wkt

import (
	"groma/api"
	"groma/lex"
)

// none is the word of a body in which nothing is.
const none = "EMPTY"

// reader goes through the tokens of a text. Behind them it has one more that can stand nowhere (of no kind, without a
// text): the first wrong one, or, at the text's end, none at all; so there always is a next one, and its place is known.
type reader struct {
	tokens []lex.Token
	texts  []string
	at     int
}

// begun is a reader ahead of the first token of s.
func begun(s string) *reader {
	r := &reader{}
	for token, text := range lex.All(s) {
		r.add(token, text)
	}
	_, end, errno := lex.Tokens(s)
	if errno == api.OK {
		end = len(s)
	}
	r.add(lex.Token{From: end, To: end}, "")
	return r
}

func (r *reader) add(token lex.Token, text string) {
	r.tokens = append(r.tokens, token)
	r.texts = append(r.texts, text)
}

// place is where the next token begins.
func (r *reader) place() int { return r.tokens[r.at].From }

// pass goes behind the next token if this is its text; one that can't stand where it is remains the next one.
func (r *reader) pass(text string) bool {
	if r.texts[r.at] != text {
		return false
	}
	r.at++
	return true
}

// text reads one geometry with all that are in it, by a loop, so that no depth of a text is one of calls.
func (r *reader) text() ([]Geo, bool) {
	var l []Geo
	level := 0
geometry:
	for {
		g, ok := r.geometry(level)
		if !ok {
			return nil, false
		}
		l = append(l, g)
		if g.Kind == Collection && !r.pass(none) {
			if !r.pass("(") {
				return nil, false
			}
			level++
			continue
		}
		for level > 0 {
			if r.pass(",") {
				continue geometry
			}
			if !r.pass(")") {
				return nil, false
			}
			level--
		}
		return l, true
	}
}

// geometry reads one in so many collections; of a collection its word alone.
func (r *reader) geometry(level int) (Geo, bool) {
	kind, ok := Kind(r.texts[r.at])
	if !ok || kind == Collection && level >= api.MaxNest {
		return Geo{}, false
	}
	r.at++
	g := Geo{Kind: kind, Level: level}
	return g, r.body(&g)
}

// body reads that of g into its lists and sizes.
func (r *reader) body(g *Geo) (ok bool) {
	switch g.Kind {
	case Point:
		g.Lists, ok = alone(r.point)
	case LineString:
		g.Lists, ok = alone(r.line)
	case MultiPoint:
		g.Lists, ok = several(r, r.point)
	case Polygon, MultiLineString:
		g.Lists, ok = several(r, r.line)
	case MultiPolygon:
		g.Lists, g.Sizes, ok = r.polygons()
	case Collection:
		ok = true
	}
	return ok
}

// polygons reads the body of several ones: the rings of all, and how many each has.
func (r *reader) polygons() ([][]Pair, []int, bool) {
	l, ok := several(r, r.polygon)
	var rings [][]Pair
	var sizes []int
	for _, polygon := range l {
		rings = append(rings, polygon...)
		sizes = append(sizes, len(polygon))
	}
	return rings, sizes, ok
}

func (r *reader) polygon() ([][]Pair, bool) { return several(r, r.line) }

func (r *reader) line() ([]Pair, bool) { return several(r, r.pair) }

func (r *reader) point() ([]Pair, bool) {
	if r.pass(none) {
		return nil, true
	}
	if !r.pass("(") {
		return nil, false
	}
	p, ok := r.pair()
	return []Pair{p}, ok && r.pass(")")
}

func (r *reader) pair() (Pair, bool) {
	x, _ := r.number()
	y, ok := r.number() // where the first one can't be read, this one can't either: what stands there remains the next token
	return Pair{X: x, Y: y}, ok
}

func (r *reader) number() (string, bool) {
	if r.tokens[r.at].Kind != lex.Number {
		return "", false
	}
	r.at++
	return r.texts[r.at-1], true
}

// alone reads a body that is one list; of an empty one there is none.
func alone(list func() ([]Pair, bool)) ([][]Pair, bool) {
	l, ok := list()
	if len(l) == 0 {
		return nil, ok
	}
	return [][]Pair{l}, ok
}

// several reads a body of any number of things, parted by commas.
func several[T any](r *reader, one func() (T, bool)) ([]T, bool) {
	if r.pass(none) {
		return nil, true
	}
	var l []T
	for sign := "("; r.pass(sign); sign = "," {
		v, ok := one()
		if !ok {
			return nil, false
		}
		l = append(l, v)
		if r.pass(")") {
			return l, true
		}
	}
	return nil, false
}
