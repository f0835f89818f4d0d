package view

import (
	"math"

	"ordinate/mem"
	"ordinate/node"
	"ordinate/probe"
	"ordinate/ref"
)

// How many cells the records have; those of an Inner hang on its degree.
const (
	cellsOfBase    = node.Root - node.Base + 1
	cellsOfEmpty   = 1
	cellsOfLeaf    = node.Value + 1
	cellsOfRebuild = node.Next + 1
	cellsOfDcss    = node.Outcome + 1
)

// Sound tells whether what hangs at Root is a tree: all its records are used, each cell belongs to one of them alone, and keys lie where they are looked for.
func Sound(m *mem.Mem) bool {
	if m == nil || m.At(node.Base+node.Degree) != 1 || m.At(node.Base+node.Shut) != 0 {
		return false
	}
	c := check{m: m, taken: make([]bool, m.Used()+1)}
	return c.take(node.Base, cellsOfBase) && c.isSoundSlot(node.Root, math.MinInt64, math.MaxInt64)
}

// isUsed tells whether there are n cells from the address at on, which is a word's, and all of them are used.
func isUsed(m *mem.Mem, at, n int) bool {
	return n >= 1 && at+n-1 <= m.Used()
}

// check goes through a memory of which nothing is known. It takes the cells of each record that it comes to: a record that it comes to again has none left, so no way leads it in circles.
type check struct {
	m     *mem.Mem
	taken []bool // by address
}

// take takes the n cells from the address at on; false, if they are not all used, or one of them is taken.
func (c *check) take(at, n int) bool {
	if !isUsed(c.m, at, n) {
		return false
	}
	for a := at; a < at+n; a++ {
		if c.taken[a] {
			return false
		}
		c.taken[a] = true
	}
	return true
}

// isSoundSlot tells whether the Logic of a slot is sound within lo to hi, and so is the Dcss that may stand there.
func (c *check) isSoundSlot(slot int, lo, hi int64) bool {
	w := c.m.At(slot)
	if ref.Kind(w) == ref.Dcss && !c.isSoundDcss(ref.At(w), slot) {
		return false
	}
	return c.isSoundWord(Logic(c.m, slot), lo, hi)
}

// isSoundDcss tells whether the Dcss at the address at is one of that slot. Its cells are not taken: it is no record of the tree.
func (c *check) isSoundDcss(at, slot int) bool {
	return isUsed(c.m, at, cellsOfDcss) && c.m.At(at+node.Place) == int64(slot)
}

// isSoundWord tells whether w is sound within lo to hi. A Dcss's word is not: there is none behind a Dcss.
func (c *check) isSoundWord(w, lo, hi int64) bool {
	at := ref.At(w)
	switch ref.Kind(w) {
	case ref.Empty:
		return c.take(at, cellsOfEmpty)
	case ref.Leaf:
		k := c.m.At(at + node.Key)
		return c.take(at, cellsOfLeaf) && lo <= k && k <= hi
	case ref.Inner:
		return c.isSoundInner(at, lo, hi)
	case ref.Rebuild:
		t := c.m.At(at + node.Target)
		return c.take(at, cellsOfRebuild) && ref.Kind(t) == ref.Inner && c.isSoundWord(t, lo, hi)
	}
	return false
}

// isSoundInner tells whether the Inner at the address at is sound within lo to hi.
func (c *check) isSoundInner(at int, lo, hi int64) bool {
	q, ok := c.keys(at)
	if !ok || !probe.Right(q) || q[0] <= lo || q[len(q)-1] > hi {
		return false
	}
	if held := c.m.At(at + node.Shut); held != 0 && held != shut {
		return false
	}
	degree := len(q) + 1
	for i := range degree {
		from, to := lo, hi
		if i > 0 {
			from = q[i-1]
		}
		if i < len(q) {
			// This doesn't go round: each key is above lo.
			to = q[i] - 1
		}
		if !c.isSoundSlot(node.ChildAt(at, degree, i), from, to) {
			return false
		}
	}
	return true
}

// keys takes the cells of the Inner at the address at and tells its keys, of which there is at least one; false, if its degree or its cells may not be.
func (c *check) keys(at int) ([]int64, bool) {
	degree := int(c.m.At(at + node.Degree))
	// Behind its last child the record ends. Of a degree that is too great to be reckoned with ChildAt tells 0: there are no such cells.
	if degree < 2 || !c.take(at, node.ChildAt(at, degree, degree)-at) {
		return nil, false
	}
	q := make([]int64, degree-1)
	for i := range q {
		q[i] = c.m.At(node.KeyAt(at, i+1))
	}
	return q, true
}
