package view_test

import (
	"fmt"
	"slices"
	"testing"

	"ordinate/api"
	"ordinate/mem"
	"ordinate/node"
	"ordinate/part"
	"ordinate/ref"
	"ordinate/view"
)

func TestSpotsOfSmallTrees(t *testing.T) {
	b := begun(t, 90)
	wantSpots(t, b.Mem, api.Spot{Slot: 6, Word: 57})
	b.root(b.leaf(1, 10))
	wantSpots(t, b.Mem, api.Spot{Slot: 6, Word: 66})
	b = idealOver(t, rising(2)...)
	wantSpots(t, b.Mem, api.Spot{Slot: 6, Word: 99}, api.Spot{Slot: 18, Word: 66}, api.Spot{Slot: 19, Word: 82})
	b = idealOver(t, rising(3)...)
	wantSpots(t, b.Mem, api.Spot{Slot: 6, Word: 179}, api.Spot{Slot: 28, Word: 99}, api.Spot{Slot: 18, Word: 66}, api.Spot{Slot: 19, Word: 82}, api.Spot{Slot: 29, Word: 162})
	for n := range 60 {
		b := idealOver(t, rising(n)...)
		wantSpots(t, b.Mem, spotsFrom(b, node.Root)...)
	}
}

func TestSpotsOfATreeThatIsNotIdeal(t *testing.T) {
	b, w := uneven(t)
	slots := []int{node.Root, b.slot(w[0], 0), b.slot(w[1], 0), b.slot(w[1], 1), b.slot(w[3], 0), b.slot(w[3], 1), b.slot(w[1], 2), b.slot(w[0], 1)}
	var want []api.Spot
	for i, slot := range slots {
		want = append(want, api.Spot{Slot: slot, Word: w[i]})
	}
	wantSpots(t, b.Mem, want...)
	// A Rebuild's slot has the Rebuild's word; what is below its Target follows.
	want[3].Word = b.rebuild(slots[3])
	wantSpots(t, b.Mem, want...)
	want[0].Word = b.rebuild(slots[0])
	wantSpots(t, b.Mem, want...)
	// A Dcss's slot has the word that it stands for.
	other := b.leaf(7, 77)
	d := b.dcss(slots[6], other, 0)
	wantSpots(t, b.Mem, want...)
	b.cell(d, node.Outcome, 2)
	wantSpots(t, b.Mem, want...)
	b.cell(d, node.Outcome, 1)
	want[6].Word = other
	wantSpots(t, b.Mem, want...)
	// With an Inner that a Dcss lays come its slots.
	inner := b.inner(2, []int64{9}, b.leaf(8, 80), want[7].Word)
	b.dcss(slots[7], inner, 1)
	want[7].Word = inner
	want = append(want, api.Spot{Slot: b.slot(inner, 0), Word: b.child(inner, 0)}, api.Spot{Slot: b.slot(inner, 1), Word: w[7]})
	wantSpots(t, b.Mem, want...)
}

func TestCalmOfChanges(t *testing.T) {
	for _, size := range []int64{0, 1, 2, 3, 4, 7, 8, 11, 12, 100, api.MaxKeys - 1, api.MaxKeys} {
		limit := int64(part.Limit(int(size)))
		for changes, want := range map[int64]bool{0: true, limit - 1: true, limit: false, limit + 1: false, 2 * limit: false, greatest: false, -1: true, -limit: true, least: true, 1 << 32: false} {
			what := fmt.Sprint("Size ", size, ", Changes ", changes)
			b := idealOver(t, rising(3)...)
			w := b.At(node.Root)
			wantCalm(t, b.cell(w, node.Size, size).cell(w, node.Changes, changes).Mem, want, what)
			b = idealOver(t, rising(3)...)
			low := b.child(b.At(node.Root), 0)
			wantCalm(t, b.cell(low, node.Size, size).cell(low, node.Changes, changes).Mem, want, what+", further below")
		}
	}
}

// Of a Size that may not be the Limit is 0 (5.1), and 0 Changes are as many.
func TestCalmOfSizesThatMayNotBe(t *testing.T) {
	for _, size := range []int64{-1, -8, api.MaxKeys + 1, 1 << 32, 1<<32 + 8, least, greatest} {
		for changes, want := range map[int64]bool{0: false, 1: false, greatest: false, -1: true, least: true} {
			b := idealOver(t, rising(3)...)
			w := b.At(node.Root)
			wantCalm(t, b.cell(w, node.Size, size).cell(w, node.Changes, changes).Mem, want, fmt.Sprint("Size ", size, ", Changes ", changes))
		}
	}
}

func TestCalmOfWhatIsUnderWay(t *testing.T) {
	b, w := uneven(t)
	wantCalm(t, b.Mem, true, "nothing is under way")
	for _, x := range []int64{w[0], w[1], w[3]} {
		c := bed{b.Clone(), t}
		wantCalm(t, c.cell(x, node.Shut, 1).Mem, false, "an Inner is shut")
		wantCalm(t, c.cell(x, node.Shut, 0).Mem, true, "an Inner is open again")
		wantCalm(t, c.cell(x, node.Sum, 3).Mem, true, "Sum is no hindrance")
	}
	for _, spot := range view.Spots(b.Mem) {
		if ref.Kind(spot.Word) == ref.Inner {
			c := bed{b.Clone(), t}
			c.rebuild(spot.Slot)
			wantSound(t, c.Mem, "a Rebuild")
			wantCalm(t, c.Mem, false, fmt.Sprint("a Rebuild in the slot ", spot.Slot))
		}
		for _, outcome := range []int64{0, 1, 2} {
			c := bed{b.Clone(), t}
			c.dcss(spot.Slot, spot.Word, outcome)
			wantSound(t, c.Mem, "a Dcss")
			wantCalm(t, c.Mem, false, fmt.Sprint("a Dcss's word in the slot ", spot.Slot))
		}
	}
	// A Dcss and a Rebuild that stand in no slot are no hindrance.
	b.lay(ref.Dcss, node.DcssWords(3, 6, 57, 66)...)
	b.lay(ref.Rebuild, node.RebuildWords(w[0], 3, 6)...)
	b.inner(0, []int64{1}, b.empty(), b.empty())
	wantCalm(t, b.Mem, true, "records that are not in the tree")
}

func TestLeavesLeftEarly(t *testing.T) {
	b, _ := uneven(t)
	all := pairs(1, 2, 7, 9)
	leaves := view.Leaves(b.Mem)
	for n := 1; n <= len(all); n++ {
		var got []api.Pair
		for k, v := range leaves {
			got = append(got, api.Pair{Key: k, Value: v})
			if len(got) == n {
				break
			}
		}
		if !slices.Equal(got, all[:n]) {
			t.Errorf("9.4: left behind %d Leaves, they are %v", n, got)
		}
		// The next loop begins anew.
		got = nil
		for k, v := range leaves {
			got = append(got, api.Pair{Key: k, Value: v})
		}
		if !slices.Equal(got, all) {
			t.Errorf("9.4: behind a loop that was left Leaves are %v", got)
		}
	}
}

// A loop that is left isn't handed another Leaf.
func TestLeavesEndWhereTheLoopEnds(t *testing.T) {
	b := idealOver(t, rising(30)...)
	for n := 1; n <= 30; n++ {
		calls := 0
		view.Leaves(b.Mem)(func(k, v int64) bool {
			calls++
			return calls < n
		})
		if calls != n {
			t.Errorf("9.4: a loop that was left behind %d Leaves was handed %d", n, calls)
		}
	}
}

// One loop within another one.
func TestLeavesWithinLeaves(t *testing.T) {
	b := idealOver(t, rising(9)...)
	leaves := view.Leaves(b.Mem)
	n := 0
	for k := range leaves {
		for x := range leaves {
			if x > k {
				break
			}
			n++
		}
	}
	if n != 45 {
		t.Errorf("9.4: loops over Leaves within one another go through %d", n)
	}
}

// What is written on the way doesn't keep a loop from its end.
func TestLeavesOfAMemoryThatIsWritten(t *testing.T) {
	b := idealOver(t, rising(9)...)
	w := b.At(node.Root)
	n := 0
	for range view.Leaves(b.Mem) {
		n++
		b.Write(b.slot(w, 0), w)
		b.Write(b.slot(w, 2), w)
		if n > 1000 {
			t.Fatalf("9.4: a loop over Leaves goes on and on")
		}
	}
	wantLeaves(t, b.Mem)
}

func TestLeavesIsNeverNil(t *testing.T) {
	unsound := idealOver(t, rising(3)...).root(0)
	for what, m := range map[string]*mem.Mem{"without a cell": fresh(t, 5), "behind Begin": begun(t, 9).Mem, "that is not Sound": unsound.Mem, "that is none": nil} {
		leaves := view.Leaves(m)
		if leaves == nil {
			t.Errorf("9.4: Leaves of a memory %s is nil", what)
			continue
		}
		for range leaves {
			t.Errorf("9.4: a memory %s has Leaves", what)
		}
	}
}
