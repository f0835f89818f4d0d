package omap

import "cmp"

// A node is the root of a search tree whose two sides differ in height by one at most; nil is a tree without keys.
// A node that is made never changes: a change of a tree makes the nodes from its place up to the root anew,
// so that loops under way and clones go on with the old ones.
type node[K cmp.Ordered, V any] struct {
	key       K
	value     V
	low, high *node[K, V]
	height    int
}

// tall tells how many nodes stand one below the other, at most.
func (n *node[K, V]) tall() int {
	if n == nil {
		return 0
	}
	return n.height
}

// told tells the node's key and value; false of none.
func (n *node[K, V]) told() (k K, v V, ok bool) {
	if n == nil {
		return k, v, false
	}
	return n.key, n.value, true
}

// between tells a node like n that has these two sides.
func (n *node[K, V]) between(low, high *node[K, V]) *node[K, V] {
	return &node[K, V]{n.key, n.value, low, high, 1 + max(low.tall(), high.tall())}
}

// balanced tells a tree of the node's key and these two sides, the heights of which differ by two at most.
func (n *node[K, V]) balanced(low, high *node[K, V]) *node[K, V] {
	switch tilt := high.tall() - low.tall(); {
	case tilt < -1:
		return n.liftLow(low, high)
	case tilt > 1:
		return n.liftHigh(low, high)
	}
	return n.between(low, high)
}

// liftLow is balanced where low is the taller side: a key of it comes to stand above n's.
func (n *node[K, V]) liftLow(low, high *node[K, V]) *node[K, V] {
	if low.low.tall() >= low.high.tall() {
		return low.between(low.low, n.between(low.high, high))
	}
	top := low.high
	return top.between(low.between(low.low, top.low), n.between(top.high, high))
}

// liftHigh is balanced where high is the taller side: a key of it comes to stand above n's.
func (n *node[K, V]) liftHigh(low, high *node[K, V]) *node[K, V] {
	if high.high.tall() >= high.low.tall() {
		return high.between(n.between(low, high.low), high.high)
	}
	top := high.low
	return top.between(n.between(low, top.low), high.between(top.high, high.high))
}

// with tells a tree in which k has the value v.
func (n *node[K, V]) with(k K, v V) *node[K, V] {
	if n == nil {
		return &node[K, V]{key: k, value: v, height: 1}
	}
	switch side := cmp.Compare(k, n.key); {
	case side < 0:
		return n.balanced(n.low.with(k, v), n.high)
	case side > 0:
		return n.balanced(n.low, n.high.with(k, v))
	}
	return &node[K, V]{n.key, v, n.low, n.high, n.height}
}

// without tells a tree in which k is no more.
func (n *node[K, V]) without(k K) *node[K, V] {
	if n == nil {
		return nil
	}
	switch side := cmp.Compare(k, n.key); {
	case side < 0:
		return n.balanced(n.low.without(k), n.high)
	case side > 0:
		return n.balanced(n.low, n.high.without(k))
	}
	if n.high == nil {
		return n.low
	}
	// The least key above k is the one that can stand in its place.
	return n.high.least().balanced(n.low, n.high.withoutLeast())
}

// least tells the node of the least key.
func (n *node[K, V]) least() *node[K, V] {
	for n.low != nil {
		n = n.low
	}
	return n
}

// withoutLeast tells a tree in which the least key is no more.
func (n *node[K, V]) withoutLeast() *node[K, V] {
	if n.low == nil {
		return n.high
	}
	return n.balanced(n.low.withoutLeast(), n.high)
}

// rise hands all keys to yield, rising, until it says false; it tells whether it never did.
func (n *node[K, V]) rise(yield func(K, V) bool) bool {
	return n == nil || n.low.rise(yield) && yield(n.key, n.value) && n.high.rise(yield)
}

// fall hands all keys to yield, falling, until it says false; it tells whether it never did.
func (n *node[K, V]) fall(yield func(K, V) bool) bool {
	return n == nil || n.high.fall(yield) && yield(n.key, n.value) && n.low.fall(yield)
}

// riseWithin hands the keys from lo to hi to yield, rising, until it says false; it tells whether it never did.
func (n *node[K, V]) riseWithin(lo, hi K, yield func(K, V) bool) bool {
	if n == nil {
		return true
	}
	fromLo, toHi := cmp.Compare(lo, n.key), cmp.Compare(n.key, hi)
	if fromLo < 0 && !n.low.riseWithin(lo, hi, yield) {
		return false
	}
	if fromLo <= 0 && toHi <= 0 && !yield(n.key, n.value) {
		return false
	}
	return toHi >= 0 || n.high.riseWithin(lo, hi, yield)
}
