package omap

import "testing"

// wantShape asks that each node's two sides differ by one at most, that its height is its own, that keys rise,
// and that there are as many nodes as Len tells: what was deleted is not kept.
func wantShape(t *testing.T, m *Map[int, int]) {
	t.Helper()
	nodes := 0
	var tall func(n *node[int, int]) int
	tall = func(n *node[int, int]) int {
		if n == nil {
			return 0
		}
		nodes++
		low, high := tall(n.low), tall(n.high)
		if high-low > 1 || low-high > 1 || n.height != 1+max(low, high) {
			t.Errorf("4.1: the node of %d has the heights %d, %d below it, %d itself", n.key, low, high, n.height)
		}
		if n.low != nil && n.low.key >= n.key || n.high != nil && n.high.key <= n.key {
			t.Errorf("4.1: the keys at %d don't rise", n.key)
		}
		return n.height
	}
	tall(m.root)
	if nodes != m.Len() {
		t.Errorf("4.2: %d nodes are kept for %d keys", nodes, m.Len())
	}
}

func TestShapeOfRisingAndFallingKeys(t *testing.T) {
	var rising, falling Map[int, int]
	for k := range 700 {
		rising.Put(k, k)
		falling.Put(-k, k)
		wantShape(t, &rising)
		wantShape(t, &falling)
	}
	for k := range 700 {
		rising.Del(k)
		falling.Del(-k)
		wantShape(t, &rising)
		wantShape(t, &falling)
	}
}

func TestShapeOfMixedKeys(t *testing.T) {
	var m Map[int, int]
	state := uint32(7)
	for i := range 6000 {
		state = state*1664525 + 1013904223
		k := int(state>>16) % 300
		// A while more are put, a while more are deleted.
		if grows := i/1000%2 == 0; (state>>8)%4 == 0 != grows {
			m.Put(k, i)
		} else {
			m.Del(k)
		}
		wantShape(t, &m)
	}
}

// The nodes that a clone holds are still those of its own keys, whatever the other map goes through.
func TestShapeOfClones(t *testing.T) {
	var m Map[int, int]
	for k := range 40 {
		m.Put(k, k)
	}
	for k := range 40 {
		c := m.Clone()
		m.Del(k)
		c.Put(k+100, k)
		wantShape(t, &m)
		wantShape(t, c)
	}
}
