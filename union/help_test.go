package union_test

import (
	"math"
	"slices"
	"testing"

	"groma/api"
	"groma/union"
)

// model tells what the chapter says as plainly as may be: which two numbers are in one set.
type model struct {
	mark []int // two numbers are in one set if their marks are the same
}

func newModel(n int) *model {
	m := &model{}
	for a := range max(n, 0) {
		m.mark = append(m.mark, a)
	}
	return m
}

func (m *model) has(a int) bool { return 0 <= a && a < len(m.mark) }

func (m *model) same(a, b int) bool { return m.has(a) && m.has(b) && m.mark[a] == m.mark[b] }

func (m *model) join(a, b int) (bool, api.Errno) {
	if !m.has(a) || !m.has(b) {
		return false, api.ErrRange
	}
	if m.same(a, b) {
		return false, api.OK
	}
	from, to := m.mark[a], m.mark[b]
	for i, mark := range m.mark {
		if mark == from {
			m.mark[i] = to
		}
	}
	return true, api.OK
}

// groups are the sets, rising, those with lesser least numbers first.
func (m *model) groups() [][]int {
	var out [][]int
	for a := range m.mark {
		var group []int
		for b := range m.mark {
			if m.same(a, b) {
				group = append(group, b)
			}
		}
		if group[0] == a {
			out = append(out, group)
		}
	}
	return out
}

// beyond are no numbers of a set of n.
func beyond(n int) []int { return []int{-1, n, n + 1, -n - 7, math.MinInt, math.MaxInt} }

// pair is sets and what they should be.
type pair struct {
	t    *testing.T
	sets *union.Sets
	*model
}

func newPair(t *testing.T, n int) pair {
	t.Helper()
	p := pair{t, union.New(n), newModel(n)}
	p.whole()
	return p
}

// join joins in both, and holds what Join and Count tell against what they should.
func (p pair) join(a, b int) {
	p.t.Helper()
	was := slices.Clone(p.mark)
	ok, e := p.sets.Join(a, b)
	if want, err := p.model.join(a, b); ok != want || e != err {
		p.t.Errorf("Join(%d, %d) of %v: %v, %d, not %v, %d", a, b, was, ok, e, want, err)
	}
	if n, want := p.sets.Count(), len(p.groups()); n != want {
		p.t.Errorf("Count behind Join(%d, %d) of %v: %d, not %d", a, b, was, n, want)
	}
}

// whole holds all that the sets tell against what they should.
func (p pair) whole() {
	p.t.Helper()
	n, groups := len(p.mark), p.groups()
	if p.sets.Len() != n || p.sets.Count() != len(groups) {
		p.t.Errorf("of %v: Len %d, Count %d", p.mark, p.sets.Len(), p.sets.Count())
	}
	equalGroups(p.t, p.told(), groups)
	numbers := make([]int, n)
	for place, group := range groups {
		for _, a := range group {
			numbers[a] = place
			p.single(a, group[0], len(group), api.OK)
		}
	}
	if got := p.sets.Numbers(); !slices.Equal(got, numbers) {
		p.t.Errorf("Numbers of %v: %v, not %v", p.mark, got, numbers)
	}
	for _, a := range beyond(n) {
		p.single(a, 0, 0, api.ErrRange)
	}
}

// single holds what the sets tell of one number against what they should.
func (p pair) single(a, least, size int, e api.Errno) {
	p.t.Helper()
	if got, err := p.sets.Least(a); got != least || err != e {
		p.t.Errorf("Least(%d) of %v: %d, %d, not %d, %d", a, p.mark, got, err, least, e)
	}
	if got := p.sets.Size(a); got != size {
		p.t.Errorf("Size(%d) of %v: %d, not %d", a, p.mark, got, size)
	}
	for b := range p.mark {
		p.together(a, b)
		p.together(b, a)
	}
	for _, b := range beyond(len(p.mark)) {
		p.together(a, b)
		p.together(b, a)
	}
}

func (p pair) together(a, b int) {
	p.t.Helper()
	if got := p.sets.Same(a, b); got != p.same(a, b) {
		p.t.Errorf("Same(%d, %d) of %v: %v", a, b, p.mark, got)
	}
}

func (p pair) told() [][]int { return slices.Collect(p.sets.Groups()) }

func equalGroups(t *testing.T, got, want [][]int) {
	t.Helper()
	if !slices.EqualFunc(got, want, slices.Equal) {
		t.Errorf("Groups: %v, not %v", got, want)
	}
}

// ways to join n numbers, of all kinds; each tells the two that are joined in each step.
func ways(n int) map[string][][2]int {
	kinds := map[string][][2]int{}
	for i := range n - 1 {
		for kind, two := range map[string][2]int{
			"rising": {i, i + 1}, "falling": {n - 1 - i, n - 2 - i}, "to the least": {0, i + 1}, "to the greatest": {i, n - 1},
			"from the middle": {n / 2, i}, "both ends": {i / 2, n - 1 - i/2}, "by threes": {i, (i + 3) % n}, "even ones": {i &^ 1, (i + 2) % n &^ 1},
			"mixed": {i * 41 % 97 % n, i * 13 % 89 % n}, "few": {i * i % 5 % n, i * i % 7 % n}, "with itself": {i, i},
		} {
			kinds[kind] = append(kinds[kind], two)
		}
	}
	for step := 1; step < n; step *= 2 {
		for i := 0; i+step < n; i += 2 * step {
			kinds["always two as great"] = append(kinds["always two as great"], [2]int{i + step, i})
		}
	}
	return kinds
}
