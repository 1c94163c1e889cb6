package avl

// Where a thing stands as to another one; the first two are the sides of a node.
const (
	ahead = iota
	behind
	same
)

// other is behind of ahead, and ahead of behind.
func other(side int) int { return behind - side }

// node has its subtrees by their sides, so that what is done on one side needn't be told again for the other one.
type node[T any] struct {
	thing T
	kids  [2]*node[T]
	deep  int
}

func (n *node[T]) told() (T, bool) {
	if n == nil {
		var none T
		return none, false
	}
	return n.thing, true
}

func (n *node[T]) depth() int {
	if n == nil {
		return 0
	}
	return n.deep
}

// measured is n's depth, as its subtrees have it.
func (n *node[T]) measured() int { return 1 + max(n.kids[ahead].depth(), n.kids[behind].depth()) }

// lean is how much deeper n is on that side than on the other one.
func (n *node[T]) lean(side int) int { return n.kids[side].depth() - n.kids[other(side)].depth() }

// balanced is the tree of n, one of whose subtrees was changed by at most one step of depth.
func (n *node[T]) balanced() *node[T] {
	for side, kid := range n.kids {
		if n.lean(side) < 2 {
			continue
		}
		if kid.lean(side) < 0 { // what is deep would go over to n, and be as deep there
			n.kids[side] = kid.raised(other(side))
		}
		return n.raised(side)
	}
	n.deep = n.measured()
	return n
}

// raised is the tree of n with its subtree of that side on top.
func (n *node[T]) raised(side int) *node[T] {
	top := n.kids[side]
	n.kids[side] = top.kids[other(side)]
	n.deep = n.measured()
	top.kids[other(side)] = n
	top.deep = top.measured()
	return top
}

// joined is the tree of n's subtrees, without n.
func (n *node[T]) joined() *node[T] {
	if n.kids[behind] == nil {
		return n.kids[ahead]
	}
	top, rest := n.kids[behind].parted()
	top.kids = [2]*node[T]{n.kids[ahead], rest}
	return top.balanced()
}

// parted is the node ahead of all, and the tree of the others.
func (n *node[T]) parted() (first, rest *node[T]) {
	if n.kids[ahead] == nil {
		return n, n.kids[behind]
	}
	first, n.kids[ahead] = n.kids[ahead].parted()
	return first, n.balanced()
}

// outermost is the node that has all others on the other side.
func (n *node[T]) outermost(side int) *node[T] {
	for n != nil && n.kids[side] != nil {
		n = n.kids[side]
	}
	return n
}

// each tells whether it was asked to go on.
func (n *node[T]) each(yield func(T) bool) bool {
	return n == nil || n.kids[ahead].each(yield) && yield(n.thing) && n.kids[behind].each(yield)
}

// sound asks the subtrees first, so that their depths may be trusted.
func (n *node[T]) sound() bool {
	if n == nil {
		return true
	}
	if !n.kids[ahead].sound() || !n.kids[behind].sound() {
		return false
	}
	return n.deep == n.measured() && n.lean(ahead) <= 1 && n.lean(behind) <= 1
}
