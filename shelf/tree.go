package shelf

import (
	"iter"

	"dovetail/api"
)

// A node has a pair, and the trees of those with lower and with higher keys, neither taller than the other by more than one. It is never changed once it is made: so clones, and ranges that have begun, share what there was then, and each change makes the nodes anew that lead to it, no others.
type node struct {
	pair      api.Pair
	low, high *node
	tall      int
}

// height is how many nodes stand below one another at most.
func (n *node) height() int {
	if n == nil {
		return 0
	}
	return n.tall
}

// find is the topmost node that a way leads to, or nil.
func (n *node) find(w way) *node {
	for n != nil {
		switch side := w(n.pair.Key); {
		case side < 0:
			n = n.low
		case side > 0:
			n = n.high
		default:
			return n
		}
	}
	return nil
}

// nodes goes through all nodes that a way leads to, rising or falling.
func (n *node) nodes(w way, back bool) iter.Seq[*node] {
	return func(tell func(*node) bool) { n.tour(w, back, tell) }
}

// tour tells the nodes that a way leads to; false: no more are wanted.
func (n *node) tour(w way, back bool, tell func(*node) bool) bool {
	if n == nil {
		return true
	}
	side, ahead, behind := w(n.pair.Key), n.low, n.high
	if back {
		side, ahead, behind = -side, behind, ahead
	}
	if side <= 0 && !ahead.tour(w, back, tell) || side == 0 && !tell(n) {
		return false
	}
	return side < 0 || behind.tour(w, back, tell)
}

// with is the tree with a pair at the end of the way to its key: in another one's place, if it has that key.
func (n *node) with(w way, p api.Pair) *node {
	if n == nil {
		return over(nil, p, nil)
	}
	switch side := w(n.pair.Key); {
	case side < 0:
		return even(n.low.with(w, p), n.pair, n.high)
	case side > 0:
		return even(n.low, n.pair, n.high.with(w, p))
	}
	return over(n.low, p, n.high)
}

// without is the tree without the pair at the end of a way; there is one.
func (n *node) without(w way) *node {
	switch side := w(n.pair.Key); {
	case side < 0:
		return even(n.low.without(w), n.pair, n.high)
	case side > 0:
		return even(n.low, n.pair, n.high.without(w))
	}
	return beside(n.low, n.high)
}

// beside is the tree of two, of which the one's keys are all lower than the other one's.
func beside(low, high *node) *node {
	if high == nil {
		return low
	}
	first, rest := high.first()
	return even(low, first, rest)
}

// first is the pair with the lowest key, and the tree of the others.
func (n *node) first() (api.Pair, *node) {
	if n.low == nil {
		return n.pair, n.high
	}
	p, rest := n.low.first()
	return p, even(rest, n.pair, n.high)
}

// over is a pair over two trees.
func over(low *node, p api.Pair, high *node) *node {
	return &node{pair: p, low: low, high: high, tall: 1 + max(low.height(), high.height())}
}

// even is a pair over two trees, one of which may have become too tall by one: then its top, or the one below that toward the other tree, stands over all.
func even(low *node, p api.Pair, high *node) *node {
	switch more := low.height() - high.height(); {
	case more > 1 && low.high.height() > low.low.height():
		top := low.high
		return over(over(low.low, low.pair, top.low), top.pair, over(top.high, p, high))
	case more > 1:
		return over(low.low, low.pair, over(low.high, p, high))
	case more < -1 && high.low.height() > high.high.height():
		top := high.low
		return over(over(low, p, top.low), top.pair, over(top.high, high.pair, high.high))
	case more < -1:
		return over(over(low, p, high.low), high.pair, high.high)
	}
	return over(low, p, high)
}
