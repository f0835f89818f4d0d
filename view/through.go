package view

import (
	"iter"

	"ordinate/api"
	"ordinate/mem"
	"ordinate/node"
	"ordinate/ref"
)

// What stands in this file goes through a memory that is Sound (isInTree asks for it): there every way down ends, and none leads to a cell that isn't used.

// spots goes through all slots of the tree, in the order of Spots.
func spots(m *mem.Mem) iter.Seq[api.Spot] {
	return func(yield func(api.Spot) bool) {
		root := spotAt(m, node.Root)
		if yield(root) {
			goBelow(m, root.Word, yield)
		}
	}
}

// below goes through all slots below w, in the order of Spots.
func below(m *mem.Mem, w int64) iter.Seq[api.Spot] {
	return func(yield func(api.Spot) bool) {
		goBelow(m, w, yield)
	}
}

// goBelow hands yield each slot below w; it tells false, if yield wants no more of them.
func goBelow(m *mem.Mem, w int64, yield func(api.Spot) bool) bool {
	for _, slot := range slots(m, w) {
		spot := spotAt(m, slot)
		if !yield(spot) || !goBelow(m, spot.Word, yield) {
			return false
		}
	}
	return true
}

func spotAt(m *mem.Mem, slot int) api.Spot {
	return api.Spot{Slot: slot, Word: Logic(m, slot)}
}

// slots goes through the slots of the Inner that w stands for, by their numbers; through none, if it is no Inner's.
func slots(m *mem.Mem, w int64) iter.Seq2[int, int] {
	return func(yield func(int, int) bool) {
		inner := target(m, w)
		if ref.Kind(inner) != ref.Inner {
			return
		}
		at := ref.At(inner)
		degree := int(m.At(at + node.Degree))
		for i := range degree {
			if !yield(i, node.ChildAt(at, degree, i)) {
				return
			}
		}
	}
}

// target tells the word that w stands for: a Rebuild's Target, else w itself.
func target(m *mem.Mem, w int64) int64 {
	if ref.Kind(w) != ref.Rebuild {
		return w
	}
	return m.At(ref.At(w) + node.Target)
}

// isInTree tells whether w is the Logic of a slot of the tree, or a Rebuild's Target there; false, if the memory is not Sound.
func isInTree(m *mem.Mem, w int64) bool {
	if !Sound(m) {
		return false
	}
	for spot := range spots(m) {
		if w == spot.Word || w == target(m, spot.Word) {
			return true
		}
	}
	return false
}

// pairsBelow tells the pairs of all Leaves from w on, in order.
func pairsBelow(m *mem.Mem, w int64) []api.Pair {
	pairs := appendLeaf(nil, m, w)
	for spot := range below(m, w) {
		pairs = appendLeaf(pairs, m, spot.Word)
	}
	return pairs
}

// appendLeaf tells the pairs and behind them that of w, if it is a Leaf's word.
func appendLeaf(pairs []api.Pair, m *mem.Mem, w int64) []api.Pair {
	if ref.Kind(w) != ref.Leaf {
		return pairs
	}
	at := ref.At(w)
	return append(pairs, api.Pair{Key: m.At(at + node.Key), Value: m.At(at + node.Value)})
}

// levels tells how many Inner stand one below the other from w on, at most.
func levels(m *mem.Mem, w int64) int {
	if ref.Kind(target(m, w)) != ref.Inner {
		return 0
	}
	deepest := 0
	for _, slot := range slots(m, w) {
		deepest = max(deepest, levels(m, Logic(m, slot)))
	}
	return 1 + deepest
}
