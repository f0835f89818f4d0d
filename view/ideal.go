package view

import (
	"ordinate/api"
	"ordinate/mem"
	"ordinate/node"
	"ordinate/part"
	"ordinate/ref"
)

// Ideal tells whether what is below w is the ideal tree of its keys, as if just laid; false, if w is not in the tree.
func Ideal(m *mem.Mem, w int64) bool {
	return isInTree(m, w) && isIdeal(m, w, pairsBelow(m, w))
}

// isIdeal tells whether what is below w is the ideal tree of these pairs. That they are those of its Leaves needn't be asked of each part: where all shapes are right, each Leaf has come to its own pair.
func isIdeal(m *mem.Mem, w int64, pairs []api.Pair) bool {
	switch ref.Kind(w) {
	case ref.Empty:
		return len(pairs) == 0
	case ref.Leaf:
		return len(pairs) == 1
	case ref.Inner:
		return isIdealInner(m, w, pairs)
	}
	return false
}

func isIdealInner(m *mem.Mem, w int64, pairs []api.Pair) bool {
	at, n := ref.At(w), len(pairs)
	if !isNew(m, at, n) {
		return false
	}
	for i, slot := range slots(m, w) {
		first := part.From(n, i)
		own := pairs[first : first+part.Size(n, i)]
		if i > 0 && m.At(node.KeyAt(at, i)) != own[0].Key {
			return false
		}
		// The word that stands there is asked for, not its Logic: a Dcss's is none that is laid.
		if !isIdeal(m, m.At(slot), own) {
			return false
		}
	}
	return true
}

// isNew tells whether the Inner at the address at has the degree and the numbers of one that was just made over n keys.
func isNew(m *mem.Mem, at, n int) bool {
	return m.At(at+node.Degree) == int64(part.Degree(n)) &&
		m.At(at+node.Size) == int64(n) &&
		m.At(at+node.Shut) == 0 &&
		m.At(at+node.Changes) == 0 &&
		m.At(at+node.Sum) == 0
}
