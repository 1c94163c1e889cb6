package merge_test

import (
	"cmp"
	"slices"
	"testing"
)

// thing is held against others by its key alone; at tells it from those that are the same.
type thing struct{ key, at int }

func byKey(a, b thing) int { return cmp.Compare(a.key, b.key) }

func sameKey(a, b thing) bool { return a.key == b.key }

// things have these keys, and are numbered from first on.
func things(first int, keys ...int) []thing {
	var l []thing
	for i, k := range keys {
		l = append(l, thing{k, first + i})
	}
	return l
}

// lists of n keys from 0 to most, all that there are.
func lists(n, most int) [][]int {
	all := [][]int{{}}
	for range n {
		var longer [][]int
		for _, l := range all {
			for k := range most + 1 {
				longer = append(longer, append(slices.Clone(l), k))
			}
		}
		all = longer
	}
	return all
}

// rising lists of up to n keys from 0 to most, all that there are.
func rising(n, most int) [][]int {
	var all [][]int
	for long := range n + 1 {
		for _, l := range lists(long, most) {
			if slices.IsSorted(l) {
				all = append(all, l)
			}
		}
	}
	return all
}

// long lists of n keys, of all kinds.
func long(n int) map[string][]int {
	kinds := map[string][]int{}
	for i := range n {
		for kind, k := range map[string]int{
			"rising": i, "falling": -i, "all the same": 7, "mixed": i * 41 % 97 * 13 % 89, "few": i * i % 5,
			"up and down": i * (1 - 2*(i%2)), "stairs": i / 10, "stairs down": -i / 10, "one out of place": (i + 1) % n,
		} {
			kinds[kind] = append(kinds[kind], k)
		}
	}
	return kinds
}

// orders of things, by their keys.
func orders() map[string]func(a, b thing) int {
	return map[string]func(a, b thing) int{
		"by keys":         byKey,
		"turned about":    func(a, b thing) int { return byKey(b, a) },
		"all the same":    func(a, b thing) int { return 0 },
		"by tens":         func(a, b thing) int { return cmp.Compare(a.key/10, b.key/10) },
		"even ones first": func(a, b thing) int { return cmp.Or(cmp.Compare(a.key&1, b.key&1), byKey(a, b)) },
		"all different":   func(a, b thing) int { return cmp.Or(byKey(a, b), cmp.Compare(b.at, a.at)) },
		"beyond -1 and 1": func(a, b thing) int { return 3 * (a.key - b.key) },
	}
}

// The models below tell what the chapter says as plainly as may be: each thing is held against all others.

func sorted[T any](l []T, order func(a, b T) int) []T {
	out := make([]T, len(l))
	for i, v := range l {
		place := 0
		for k, w := range l {
			if n := order(w, v); n < 0 || n == 0 && k < i {
				place++
			}
		}
		out[place] = v
	}
	return out
}

func isSorted[T any](l []T, order func(a, b T) int) bool {
	for i := range l {
		for k := range i {
			if order(l[i], l[k]) < 0 {
				return false
			}
		}
	}
	return true
}

func cut[T any](l []T, same func(a, b T) bool) [][]T {
	var out [][]T
	for i, v := range l {
		if i > 0 && same(l[i-1], v) {
			out[len(out)-1] = append(out[len(out)-1], v)
		} else {
			out = append(out, []T{v})
		}
	}
	return out
}

// place is where v is or what stands behind it, if l is sorted.
func place[T any](l []T, v T, order func(a, b T) int) (int, bool) {
	n, ok := 0, false
	for _, w := range l {
		if order(w, v) < 0 {
			n++
		}
		ok = ok || order(w, v) == 0
	}
	return n, ok
}

func without[T any](l, gone []T, order func(a, b T) int) []T {
	var out []T
	for _, v := range l {
		if _, ok := place(gone, v, order); !ok {
			out = append(out, v)
		}
	}
	return out
}

func once[T any](l []T, order func(a, b T) int) []T {
	var out []T
	for _, v := range sorted(l, order) {
		if _, ok := place(out, v, order); !ok {
			out = append(out, v)
		}
	}
	return out
}

// equal holds what a call told against what it should.
func equal[T comparable](t *testing.T, call string, got, want []T, of ...[]T) {
	t.Helper()
	if !slices.Equal(got, want) {
		t.Errorf("%s of %v: %v, not %v", call, of, got, want)
	}
}

func equalPieces[T comparable](t *testing.T, got, want [][]T, of []T) {
	t.Helper()
	if !slices.EqualFunc(got, want, slices.Equal) {
		t.Errorf("Runs of %v: %v, not %v", of, got, want)
	}
}
