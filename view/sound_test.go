package view_test

import (
	"fmt"
	"testing"

	"ordinate/api"
	"ordinate/node"
	"ordinate/part"
	"ordinate/ref"
)

func TestSoundTrees(t *testing.T) {
	for n := range 120 {
		wantSound(t, idealOver(t, rising(n)...).Mem, fmt.Sprint("the ideal tree over keys: ", n))
	}
	b := begun(t, 100)
	wantSound(t, b.root(b.inner(0, []int64{5}, b.empty(), b.empty())).Mem, "two Empties below an Inner")
	wantSound(t, b.root(b.inner(0, []int64{5}, b.empty(), b.leaf(7, 0))).Mem, "a key that is not the least one of its child")
}

func TestUsedCells(t *testing.T) {
	cells := []int64{1, 0, 0, 0, 0, 57, 0}
	for used := range 7 {
		m := fresh(t, 20)
		if used > 0 {
			m.Make(cells[:used])
		}
		wantUnsound(t, m, fmt.Sprint("used cells: ", used))
		m.Make(cells[used:])
		wantSound(t, m, "all seven cells are used")
	}
}

func TestBase(t *testing.T) {
	for _, x := range []int64{0, 2, 3, -1, 257, 1<<32 + 1, least, greatest} {
		b := idealOver(t, rising(3)...)
		b.Write(node.Base+node.Degree, x)
		wantUnsound(t, b.Mem, fmt.Sprint("the degree of Base is ", x))
	}
	for _, x := range []int64{1, 2, -1, 256, 1 << 32, least, greatest} {
		b := idealOver(t, rising(3)...)
		b.Write(node.Base+node.Shut, x)
		wantUnsound(t, b.Mem, fmt.Sprint("Shut of Base is ", x))
	}
	for _, place := range []int{node.Size, node.Changes, node.Sum} {
		for _, x := range []int64{1, -1, least, greatest} {
			b := idealOver(t, rising(3)...)
			b.Write(node.Base+place, x)
			wantSound(t, b.Mem, fmt.Sprint("Base holds at ", place, ": ", x))
			wantCalm(t, b.Mem, true, fmt.Sprint("Base, which is not in the tree, holds at ", place, ": ", x))
		}
	}
}

// What is no word, of no used record or of a Dcss behind a Dcss may stand in no slot.
func TestWordsThatMayNotStand(t *testing.T) {
	words := []int64{0, 1, 2, 3, 7, 8, 14, 15, 16, -1, -8, -57, -62, least, least + 1, greatest, 8*(api.MaxCells+1) + ref.Empty, 1<<32 + 57}
	for kind := ref.Empty; kind <= ref.Dcss; kind++ {
		words = append(words, ref.Of(kind, 90), ref.Of(kind, api.MaxCells))
	}
	for _, w := range words {
		b := idealOver(t, rising(3)...)
		wantUnsound(t, b.root(w).Mem, fmt.Sprint("at Root stands ", w))
		b = idealOver(t, rising(3)...)
		b.Write(b.slot(b.At(node.Root), 1), w)
		wantUnsound(t, b.Mem, fmt.Sprint("in a slot stands ", w))
		b = idealOver(t, rising(3)...)
		b.dcss(b.slot(b.At(node.Root), 1), w, 1)
		wantUnsound(t, b.Mem, fmt.Sprint("a Dcss has come to ", w))
		b = idealOver(t, rising(3)...)
		b.cell(b.rebuild(node.Root), node.Target, w)
		wantUnsound(t, b.Mem, fmt.Sprint("the Target is ", w))
	}
}

// A record of which but the last cell is used; with one cell more it is whole.
func TestCellsOfRecordsAreUsed(t *testing.T) {
	t.Run("Empty", func(t *testing.T) {
		b := begun(t, 90).root(ref.Of(ref.Empty, 8))
		wantUnsound(t, b.Mem, "an Empty that isn't used")
		b.empty()
		wantSound(t, b.Mem, "an Empty that is used")
	})
	t.Run("Leaf", func(t *testing.T) {
		b := begun(t, 90).root(b1(t))
		b.lay(ref.Leaf, 5)
		wantUnsound(t, b.Mem, "a Leaf without its value")
		b.lay(ref.Leaf, 5)
		wantSound(t, b.Mem, "a Leaf with its value")
	})
	t.Run("Inner", func(t *testing.T) {
		for degree := 2; degree <= 5; degree++ {
			b := begun(t, 90)
			var q, c []int64
			for i := range int64(degree) {
				q, c = append(q, i), append(c, b.empty())
			}
			whole := node.InnerWords(0, q[1:], c)
			last := len(whole) - 1
			b.root(b.lay(ref.Inner, whole[:last]...))
			wantUnsound(t, b.Mem, "an Inner without its last child")
			b.lay(ref.Inner, whole[last])
			wantSound(t, b.Mem, "an Inner with its last child")
		}
	})
	t.Run("Rebuild", func(t *testing.T) {
		b := idealOver(t, rising(3)...)
		whole := node.RebuildWords(b.At(node.Root), 3, 6)
		b.root(b.lay(ref.Rebuild, whole[:4]...))
		wantUnsound(t, b.Mem, "a Rebuild without its Next")
		b.lay(ref.Rebuild, whole[4])
		wantSound(t, b.Mem, "a Rebuild with its Next")
	})
	t.Run("Dcss", func(t *testing.T) {
		b := idealOver(t, rising(3)...)
		whole := node.DcssWords(3, 6, b.At(node.Root), 57)
		b.root(b.lay(ref.Dcss, whole[:4]...))
		wantUnsound(t, b.Mem, "a Dcss without its Outcome")
		b.lay(ref.Dcss, whole[4])
		wantSound(t, b.Mem, "a Dcss with its Outcome")
	})
}

// b1 is the word of a Leaf at the first cell behind Begin.
func b1(t *testing.T) int64 {
	t.Helper()
	return ref.Of(ref.Leaf, node.First+1)
}

// The last cell of the greatest memory is a cell as each other one.
func TestTheLastCell(t *testing.T) {
	b := begun(t, api.MaxCells)
	b.lay(ref.Empty, make([]int64, api.MaxCells-9)...)
	wantUnsound(t, b.root(ref.Of(ref.Leaf, api.MaxCells)).Mem, "a Leaf beyond the last cell")
	b.lay(ref.Leaf, 4, 5)
	wantUnsound(t, b.Mem, "a Leaf beyond the last cell")
	wantSound(t, b.root(ref.Of(ref.Leaf, api.MaxCells-1)).Mem, "a Leaf in the last cells")
	wantSound(t, b.root(ref.Of(ref.Empty, api.MaxCells)).Mem, "an Empty in the last cell")
	for _, kind := range []int{ref.Inner, ref.Rebuild, ref.Dcss} {
		wantUnsound(t, b.root(ref.Of(kind, api.MaxCells)).Mem, "a record beyond the last cell")
	}
}

func TestDegrees(t *testing.T) {
	for _, d := range []int64{1, 0, 3, 4, 60, api.MaxCells, api.MaxCells + 1, 1 << 31, 1 << 32, 1<<32 + 2, 1 << 40, 1 << 60, 1 << 61, 1 << 62, greatest, greatest - 3, -1, -2, -3, -4, least, least + 2} {
		b := idealOver(t, rising(3)...)
		w := b.At(node.Root)
		wantUnsound(t, b.cell(w, node.Degree, d).Mem, fmt.Sprint("an Inner of degree ", d))
		b = idealOver(t, rising(3)...)
		wantUnsound(t, b.cell(b.child(b.At(node.Root), 0), node.Degree, d).Mem, fmt.Sprint("an Inner of degree ", d, " further below"))
	}
	// Records that are whole, but of degree 0 and 1.
	b := begun(t, 90)
	wantUnsound(t, b.root(b.inner(0, nil, b.empty())).Mem, "an Inner of degree 1")
	wantUnsound(t, b.root(b.lay(ref.Inner, 0, 0, 0, 0, 0, 0, 0, 0)).Mem, "an Inner of degree 0")
	wantSound(t, b.root(b.inner(0, []int64{0}, b.empty(), b.empty())).Mem, "an Inner of degree 2")
}

func TestShut(t *testing.T) {
	for x, want := range map[int64]bool{0: true, 1: true, 2: false, 3: false, -1: false, 256: false, 257: false, 1 << 32: false, 1<<32 + 1: false, least: false, greatest: false} {
		for deep := range 2 {
			b := idealOver(t, rising(3)...)
			w := b.At(node.Root)
			if deep == 1 {
				w = b.child(w, 0)
			}
			b.cell(w, node.Shut, x)
			if want {
				wantSound(t, b.Mem, fmt.Sprint("Shut is ", x))
			} else {
				wantUnsound(t, b.Mem, fmt.Sprint("Shut is ", x))
			}
		}
	}
}

// Size, Changes and Sum, a Leaf's value, an Empty's cell, a Rebuild's and a Dcss's other cells may hold anything.
func TestCellsThatMayHoldAnything(t *testing.T) {
	for _, x := range []int64{0, 1, -1, 2, 57, api.MaxKeys + 1, least, greatest} {
		for _, place := range []int{node.Size, node.Changes, node.Sum} {
			b := idealOver(t, rising(3)...)
			wantSound(t, b.cell(b.At(node.Root), place, x).Mem, fmt.Sprint("an Inner holds at ", place, ": ", x))
		}
		for _, place := range []int{node.Gate, node.Slot, node.Top, node.Next} {
			b := idealOver(t, rising(3)...)
			wantSound(t, b.cell(b.rebuild(node.Root), place, x).Mem, fmt.Sprint("a Rebuild holds at ", place, ": ", x))
		}
		b := begun(t, 50)
		wantSound(t, b.cell(57, 0, x).Mem, fmt.Sprint("an Empty holds ", x))
		wantSound(t, b.root(b.leaf(5, x)).Mem, fmt.Sprint("a Leaf's value is ", x))
		// The word that a Dcss hasn't come to isn't asked for.
		b = idealOver(t, rising(3)...)
		wantSound(t, b.cell(b.dcss(node.Root, x, 0), node.Guard, x).Mem, fmt.Sprint("Guard and New are ", x))
		b = idealOver(t, rising(3)...)
		w := b.At(node.Root)
		wantSound(t, b.cell(b.dcss(node.Root, w, 1), node.Old, x).Mem, fmt.Sprint("Old is ", x))
	}
	for _, outcome := range []int64{0, 1, 2, 3, -1, least, greatest} {
		b := idealOver(t, rising(3)...)
		w := b.At(node.Root)
		b.dcss(node.Root, w, outcome)
		wantSound(t, b.Mem, fmt.Sprint("Outcome is ", outcome))
	}
}

// over tells a memory at whose Root an Inner with the keys q stands, with Empties below it.
func over(t *testing.T, q ...int64) bed {
	t.Helper()
	b := begun(t, 90)
	c := []int64{b.empty()}
	for range q {
		c = append(c, b.empty())
	}
	return b.root(b.inner(0, q, c...))
}

func TestKeysAscend(t *testing.T) {
	for _, q := range [][]int64{{0}, {1, 2}, {-1, 0, 1}, {1, 2, 3, 4, 5}, {least + 1}, {greatest}, {least + 1, greatest}, {least + 1, 0, greatest}, {greatest - 1, greatest}, {least + 1, least + 2}} {
		wantSound(t, over(t, q...).Mem, fmt.Sprint("keys ", q))
	}
	for _, q := range [][]int64{{1, 1}, {2, 1}, {1, 2, 2}, {1, 1, 2}, {1, 3, 2}, {3, 1, 2}, {1, 2, 1}, {1, 2, 3, 5, 4}, {greatest, greatest}, {greatest, least + 1}, {0, least}, {greatest, 0}, {least}, {least, greatest}, {least, least}} {
		wantUnsound(t, over(t, q...).Mem, fmt.Sprint("keys ", q))
	}
}

// within lays w as the child i of an Inner with the keys 10 and 20 at Root.
func within(b bed, w int64, i int) bed {
	c := []int64{b.empty(), b.empty(), b.empty()}
	c[i] = w
	return b.root(b.inner(0, []int64{10, 20}, c...))
}

func TestLeavesWithin(t *testing.T) {
	for _, x := range []struct {
		i    int
		k    int64
		want bool
	}{
		{0, least, true}, {0, least + 1, true}, {0, 0, true}, {0, 9, true}, {0, 10, false}, {0, 11, false}, {0, greatest, false},
		{1, 9, false}, {1, 10, true}, {1, 11, true}, {1, 19, true}, {1, 20, false}, {1, 21, false}, {1, least, false}, {1, greatest, false},
		{2, 19, false}, {2, 20, true}, {2, 21, true}, {2, greatest - 1, true}, {2, greatest, true}, {2, least, false}, {2, 10, false},
	} {
		for _, dcss := range []bool{false, true} {
			b := begun(t, 90)
			if dcss {
				// The Leaf is laid by a Dcss that is done.
				within(b, b.empty(), x.i)
				b.dcss(b.slot(b.At(node.Root), x.i), b.leaf(x.k, 5), 1)
			} else {
				within(b, b.leaf(x.k, 5), x.i)
			}
			what := fmt.Sprint("the child ", x.i, " is a Leaf of ", x.k)
			if x.want {
				wantSound(t, b.Mem, what)
			} else {
				wantUnsound(t, b.Mem, what)
			}
		}
	}
	for _, k := range []int64{least, least + 1, -1, 0, 1, greatest - 1, greatest} {
		b := begun(t, 90)
		wantSound(t, b.root(b.leaf(k, 5)).Mem, fmt.Sprint("a Leaf at Root: ", k))
	}
}

func TestInnerWithin(t *testing.T) {
	for _, x := range []struct {
		i    int
		q    []int64
		want bool
	}{
		{0, []int64{least}, false}, {0, []int64{least + 1}, true}, {0, []int64{9}, true}, {0, []int64{10}, false}, {0, []int64{5, 9}, true}, {0, []int64{5, 10}, false}, {0, []int64{least, 9}, false},
		{1, []int64{9}, false}, {1, []int64{10}, false}, {1, []int64{11}, true}, {1, []int64{19}, true}, {1, []int64{20}, false}, {1, []int64{10, 19}, false}, {1, []int64{11, 19}, true}, {1, []int64{11, 20}, false}, {1, []int64{11, 15, 19}, true}, {1, []int64{11, 25, 19}, false}, {1, []int64{11, 5, 19}, false},
		{2, []int64{20}, false}, {2, []int64{21}, true}, {2, []int64{greatest}, true}, {2, []int64{21, greatest}, true}, {2, []int64{20, greatest}, false}, {2, []int64{least}, false},
	} {
		for _, rebuild := range []bool{false, true} {
			b := begun(t, 90)
			c := []int64{b.empty()}
			for range x.q {
				c = append(c, b.empty())
			}
			within(b, b.inner(0, x.q, c...), x.i)
			if rebuild {
				b.rebuild(b.slot(b.At(node.Root), x.i))
			}
			what := fmt.Sprint("the child ", x.i, " is an Inner with the keys ", x.q, ", below a Rebuild: ", rebuild)
			if x.want {
				wantSound(t, b.Mem, what)
			} else {
				wantUnsound(t, b.Mem, what)
			}
		}
	}
}

// What is further below is held to the bounds of all that is above it.
func TestLeavesFarBelow(t *testing.T) {
	for _, x := range []struct {
		i    int
		k    int64
		want bool
	}{{0, 9, false}, {0, 10, true}, {0, 14, true}, {0, 15, false}, {1, 14, false}, {1, 15, true}, {1, 19, true}, {1, 20, false}} {
		b := begun(t, 90)
		c := []int64{b.empty(), b.empty()}
		c[x.i] = b.leaf(x.k, 1)
		within(b, b.inner(0, []int64{15}, c...), 1)
		what := fmt.Sprint("a Leaf of ", x.k, " below the child ", x.i, " of the child 1")
		if x.want {
			wantSound(t, b.Mem, what)
		} else {
			wantUnsound(t, b.Mem, what)
		}
	}
}

func TestDcssOfAnotherPlace(t *testing.T) {
	for _, outcome := range []int64{0, 1, 2} {
		for _, place := range []int64{0, 1, 5, 7, -6, 6 + 1<<32, least, greatest} {
			b := idealOver(t, rising(3)...)
			d := b.dcss(node.Root, b.At(node.Root), outcome)
			wantSound(t, b.Mem, "a Dcss at Root")
			wantUnsound(t, b.cell(d, node.Place, place).Mem, fmt.Sprint("Place of a Dcss at Root is ", place))
		}
		b := idealOver(t, rising(3)...)
		w := b.At(node.Root)
		d := b.dcss(b.slot(w, 1), b.child(w, 1), outcome)
		wantSound(t, b.Mem, "a Dcss in a slot")
		wantUnsound(t, b.cell(d, node.Place, int64(b.slot(w, 0))).Mem, "a Dcss of the slot next to it")
		wantUnsound(t, b.cell(d, node.Place, node.Root).Mem, "a Dcss of Root in another slot")
	}
	// A Dcss's word in two slots: it has but one Place.
	b := begun(t, 90)
	w := b.inner(0, []int64{4}, b.empty(), b.empty())
	b.root(w)
	b.Write(b.slot(w, 0), b.dcss(b.slot(w, 1), b.empty(), 1))
	wantUnsound(t, b.Mem, "a Dcss's word in two slots")
}

func TestDcssBehindADcss(t *testing.T) {
	for _, outcome := range []int64{0, 1, 2} {
		b := begun(t, 90)
		b.dcss(node.Root, 57, 0)
		b.dcss(node.Root, b.At(node.Root), outcome)
		wantUnsound(t, b.Mem, "a Dcss behind a Dcss")
	}
}

func TestTargets(t *testing.T) {
	b := idealOver(t, rising(3)...)
	w := b.At(node.Root)
	inner := b.child(w, 0)
	r := b.rebuild(b.slot(w, 0))
	wantSound(t, b.Mem, "a Rebuild of an Inner")
	for _, target := range []int64{b.empty(), b.leaf(2, 20), r, w, 57, b.child(w, 1), b.child(inner, 0), b.lay(ref.Rebuild, node.RebuildWords(inner, 3, 6)...), b.lay(ref.Dcss, node.DcssWords(3, ref.At(r), inner, inner)...)} {
		wantUnsound(t, b.cell(r, node.Target, target).Mem, fmt.Sprint("the Target is the word ", target))
	}
	wantSound(t, b.cell(r, node.Target, inner).Mem, "a Rebuild of an Inner")
	wantUnsound(t, b.cell(inner, node.Shut, 2).Mem, "a Target that is not sound")
	wantSound(t, b.cell(inner, node.Shut, 1).Mem, "a Target that is shut")
	wantUnsound(t, b.cell(b.child(inner, 1), node.Key, 3).Mem, "a Leaf below a Target beyond its bounds")
}

// The bounds of a Rebuild are those of its Target.
func TestTargetsWithin(t *testing.T) {
	for k, want := range map[int64]bool{10: false, 11: true, 19: true, 20: false} {
		b := begun(t, 90)
		within(b, b.inner(0, []int64{k}, b.empty(), b.empty()), 1)
		b.rebuild(b.slot(b.At(node.Root), 1))
		if want {
			wantSound(t, b.Mem, fmt.Sprint("a Target with the key ", k))
		} else {
			wantUnsound(t, b.Mem, fmt.Sprint("a Target with the key ", k))
		}
	}
}

func TestTheSameWordTwice(t *testing.T) {
	b := begun(t, 90)
	e := b.empty()
	wantUnsound(t, b.root(b.inner(0, []int64{4}, e, e)).Mem, "an Empty in two slots")
	wantUnsound(t, b.root(b.inner(0, []int64{4, 6}, e, 57, e)).Mem, "an Empty in two slots that are apart")
	w := b.inner(0, []int64{2}, e, b.empty())
	wantUnsound(t, b.root(b.inner(0, []int64{4}, w, e)).Mem, "an Empty in two slots, one below the other")
	w = b.inner(0, []int64{2}, b.empty(), b.empty())
	b.root(b.inner(0, []int64{4}, w, e))
	wantSound(t, b.Mem, "an Empty in one slot")
	b.dcss(b.slot(b.At(node.Root), 1), b.child(w, 1), 1)
	wantUnsound(t, b.Mem, "an Empty in two slots, in one of them behind a Dcss")
}

func TestRecordsThatShareACell(t *testing.T) {
	t.Run("Empty and Leaf", func(t *testing.T) {
		for place := range 2 {
			b := begun(t, 90)
			l := b.leaf(9, 9)
			b.root(b.inner(0, []int64{4}, ref.Of(ref.Empty, ref.At(l)+place), l))
			wantUnsound(t, b.Mem, fmt.Sprint("an Empty at the cell of a Leaf: ", place))
		}
	})
	t.Run("two Leaves", func(t *testing.T) {
		b := begun(t, 90)
		at, _ := b.Make([]int64{1, 4, 9, 0})
		b.root(b.inner(0, []int64{4}, ref.Of(ref.Leaf, at), ref.Of(ref.Leaf, at+1)))
		wantUnsound(t, b.Mem, "the value of a Leaf is the key of another one")
		b.root(b.inner(0, []int64{4}, ref.Of(ref.Leaf, at), ref.Of(ref.Leaf, at+2)))
		wantSound(t, b.Mem, "two Leaves side by side")
	})
	t.Run("Empty and Inner", func(t *testing.T) {
		for place := range 8 {
			b := begun(t, 90)
			w := b.inner(0, []int64{4}, b.empty(), b.empty())
			for i := range 2 {
				c := bed{b.Clone(), t}
				c.Write(c.slot(w, i), ref.Of(ref.Empty, ref.At(w)+place))
				wantUnsound(t, c.root(w).Mem, fmt.Sprint("an Empty at the cell of the Inner above it: ", place))
			}
		}
	})
	t.Run("Empty and Rebuild", func(t *testing.T) {
		for place := range 5 {
			b := idealOver(t, rising(2)...)
			w := b.At(node.Root)
			r := b.rebuild(node.Root)
			b.Write(b.slot(w, 0), ref.Of(ref.Empty, ref.At(r)+place))
			wantUnsound(t, b.Mem, fmt.Sprint("an Empty at the cell of a Rebuild: ", place))
		}
	})
	t.Run("Rebuild and Target", func(t *testing.T) {
		// The Rebuild is the Inner's keys and its first children.
		b := begun(t, 90)
		c := []int64{b.empty(), b.empty(), b.empty(), b.empty(), b.empty()}
		at := b.Used() + 1
		w := ref.Of(ref.Inner, at)
		b.root(b.inner(0, []int64{1, 2, 3, w}, c...))
		wantSound(t, b.Mem, "an Inner one of whose keys is its own word")
		wantUnsound(t, b.root(ref.Of(ref.Rebuild, node.KeyAt(at, 4))).Mem, "a Rebuild in the middle of its Target")
	})
}

func TestRecordsThatShareACellWithBase(t *testing.T) {
	for at := node.Base; at <= node.Root; at++ {
		b := begun(t, 90)
		wantUnsound(t, b.root(ref.Of(ref.Empty, at)).Mem, fmt.Sprint("an Empty at ", at))
		wantUnsound(t, b.root(ref.Of(ref.Leaf, at)).Mem, fmt.Sprint("a Leaf at ", at))
		w := b.inner(0, []int64{4}, ref.Of(ref.Empty, at), b.empty())
		wantUnsound(t, b.root(w).Mem, fmt.Sprint("an Empty at ", at, ", below an Inner"))
		b = idealOver(t, rising(2)...)
		b.Write(at, b.At(node.Root))
		wantUnsound(t, b.root(ref.Of(ref.Rebuild, at)).Mem, fmt.Sprint("a Rebuild at ", at))
	}
	// Inner whose first cells are Base's last ones, and one right behind Base.
	for at := 5; at <= 7; at++ {
		b := begun(t, 90)
		for b.Used() < at+7 {
			b.empty()
		}
		for i, x := range node.InnerWords(0, []int64{4}, []int64{b.empty(), b.empty()}) {
			b.Write(at+i, x)
		}
		b.root(ref.Of(ref.Inner, at))
		if at > node.Root {
			wantSound(t, b.Mem, "an Inner right behind Base")
		} else {
			wantUnsound(t, b.Mem, fmt.Sprint("an Inner at ", at))
		}
	}
}

// A Dcss is no record of the tree: its cells may belong to one.
func TestADcssMayShareItsCells(t *testing.T) {
	b := begun(t, 90)
	w := b.inner(0, []int64{4}, b.empty(), b.empty())
	d := b.dcss(b.slot(w, 0), b.empty(), 0)
	b.root(w)
	for place := range 5 {
		b.Write(b.slot(w, 1), ref.Of(ref.Empty, ref.At(d)+place))
		wantSound(t, b.Mem, fmt.Sprint("an Empty at the cell of a Dcss: ", place))
	}
	// The Dcss of Root lies in Base's own cells, and behind: its Outcome is the Empty's cell.
	b = begun(t, 90)
	b.Write(4, 6)
	wantUnsound(t, b.root(ref.Of(ref.Dcss, 3)).Mem, "a Dcss in the cells of Base, its Old none")
	b.Write(5, 57)
	wantSound(t, b.Mem, "a Dcss in the cells of Base")
	b.Write(4, 5)
	wantUnsound(t, b.Mem, "a Dcss of another place in the cells of Base")
}

// A way that leads back, to the record itself or to one above it.
func TestWaysThatLeadBack(t *testing.T) {
	for i := range 2 {
		b := idealOver(t, rising(3)...)
		w := b.At(node.Root)
		deep := b.child(w, 0)
		for _, slot := range []int{b.slot(w, i), b.slot(deep, i)} {
			for _, back := range []int64{w, deep, ref.Of(ref.Inner, node.Base), ref.Of(ref.Rebuild, ref.At(w))} {
				c := bed{b.Clone(), t}
				if c.At(slot) == back {
					continue
				}
				c.Write(slot, back)
				wantUnsound(t, c.Mem, fmt.Sprint("at ", slot, " stands ", back))
				c = bed{b.Clone(), t}
				c.dcss(slot, back, 1)
				wantUnsound(t, c.Mem, fmt.Sprint("at ", slot, " stands a Dcss that has come to ", back))
			}
		}
		c := bed{b.Clone(), t}
		r := c.rebuild(c.slot(w, 0))
		wantUnsound(t, c.cell(r, node.Target, r).Mem, "a Rebuild whose Target is its own word")
		wantUnsound(t, c.cell(r, node.Target, w).Mem, "a Rebuild whose Target is above it")
		c = bed{b.Clone(), t}
		d := c.dcss(c.slot(w, 0), 0, 1)
		wantUnsound(t, c.cell(d, node.New, d).Mem, "a Dcss that has come to its own word")
	}
	b := begun(t, 90)
	wantUnsound(t, b.root(ref.Of(ref.Inner, node.Base)).Mem, "Base is below itself")
	b.Write(node.Base+node.Degree, 2)
	wantUnsound(t, b.Mem, "Base is below itself, of degree 2")
}

// The deepest tree and the widest ones that a memory has room for.
func TestGreatTrees(t *testing.T) {
	b := begun(t, api.MaxCells)
	w, depth := b.empty(), 0
	for b.Size()-b.Used() >= 9 {
		w = b.inner(0, []int64{int64(depth)}, w, b.empty())
		depth++
	}
	wantSound(t, b.root(w).Mem, "the deepest tree")
	wantBelow(t, b.Mem, w, below{depth: depth})
	wantCalm(t, b.Mem, true, "the deepest tree")
	if n := len(tellAll(b.Mem).spots); n != 2*depth+1 {
		t.Errorf("9.4: the deepest tree has %d Spots", n)
	}
	b = begun(t, api.MaxCells)
	l := rising((api.MaxCells - 11) / 4)
	var q, c []int64
	for i, p := range l {
		if i > 0 {
			q = append(q, p.Key)
		}
		c = append(c, b.leaf(p.Key, p.Value))
	}
	w = b.inner(len(l), q, c...)
	wantSound(t, b.root(w).Mem, "the widest tree")
	wantBelow(t, b.Mem, w, below{content: l, depth: 1})
	wantCalm(t, b.Mem, true, "the widest tree")
	wantLeaves(t, b.Mem, l...)
}

func TestGreatIdealTrees(t *testing.T) {
	n := 1
	for n < api.MaxKeys && part.Cells(n+1) <= api.MaxCells-100 {
		n++
	}
	for _, n := range []int{n, n - 1, 4096, 1000} {
		l := rising(n)
		b := idealOver(t, l...)
		w := b.At(node.Root)
		wantSound(t, b.Mem, "a great ideal tree")
		wantBelow(t, b.Mem, w, below{content: l, depth: part.Depth(n), ideal: true})
		wantLeaves(t, b.Mem, l...)
	}
}
