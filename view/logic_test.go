package view_test

import (
	"math"
	"testing"

	"ordinate/api"
	"ordinate/node"
	"ordinate/ref"
	"ordinate/view"
)

func wantLogic(t *testing.T, b bed, slot int, want int64) {
	t.Helper()
	if got := view.Logic(b.Mem, slot); got != want {
		t.Errorf("9.1: Logic of %d, where %d stands, is %d, not %d", slot, b.At(slot), got, want)
	}
}

func TestExamples(t *testing.T) {
	m := begun(t, 7).Mem
	wantSound(t, m, "behind Begin")
	wantCalm(t, m, true, "behind Begin")
	wantLogic(t, bed{m, t}, 6, 57)
	wantSpots(t, m, api.Spot{Slot: 6, Word: 57})
	wantBelow(t, m, 57, below{ideal: true})
	wantLeaves(t, m)
}

// Every word but a Dcss's stands for itself.
func TestLogicOfWords(t *testing.T) {
	b := begun(t, 60)
	b.leaf(1, 10)
	words := []int64{
		ref.Of(ref.Empty, 7), ref.Of(ref.Leaf, 8), ref.Of(ref.Inner, 1), ref.Of(ref.Rebuild, 8), ref.Of(ref.Leaf, api.MaxCells),
		0, 1, 5, 8, 14, 15, -1, -3, least, greatest,
		// Kinds of a Dcss with addresses that may not be.
		8*(api.MaxCells+1) + ref.Dcss, -8 + ref.Dcss, -16 + ref.Dcss, least + ref.Dcss, greatest - 2,
	}
	for _, w := range words {
		b.root(w)
		wantLogic(t, b, node.Root, w)
	}
}

func TestLogicOfADcss(t *testing.T) {
	for outcome, want := range map[int64]int64{0: 57, 1: 66, 2: 57, 3: 57, -1: 57, least: 57, greatest: 57, 1 << 32: 57, 257: 57} {
		b := begun(t, 60)
		b.leaf(1, 10)
		b.dcss(node.Root, 66, outcome)
		wantLogic(t, b, node.Root, want)
	}
}

// Neither where a Dcss belongs nor what its words are is asked.
func TestLogicOfAnyDcss(t *testing.T) {
	b := begun(t, 60)
	d := b.lay(ref.Dcss, -1, 40, least, greatest, 0)
	for _, slot := range []int{1, 5, 6, 7} {
		b.Write(slot, d)
		b.cell(d, node.Outcome, 0)
		wantLogic(t, b, slot, least)
		b.cell(d, node.Outcome, 1)
		wantLogic(t, b, slot, greatest)
		b.Write(slot, 0)
	}
	// A Dcss's word behind a Dcss stands for itself, its own one, too.
	other := b.lay(ref.Dcss, 3, 6, 57, 66, 1)
	b.cell(d, node.Old, other).cell(d, node.New, d).root(d)
	wantLogic(t, b, node.Root, d)
	b.cell(d, node.Outcome, 2)
	wantLogic(t, b, node.Root, other)
}

// The slot may be a cell of the Dcss itself.
func TestLogicOfACellOfItsDcss(t *testing.T) {
	b := begun(t, 60)
	d := b.lay(ref.Dcss, 3, 6, 57, 66, 1)
	for place, want := range map[int]int64{node.Guard: 66, node.Place: 66, node.Old: 66, node.New: d, node.Outcome: 57} {
		c := bed{b.Clone(), t}
		c.cell(d, place, d)
		wantLogic(t, c, ref.At(d)+place, want)
	}
}

// Cells of a Dcss that aren't used hold 0: it has not come out, and has no words.
func TestLogicOfADcssPastTheEnd(t *testing.T) {
	whole := node.DcssWords(3, 6, 57, 66)
	whole[node.Outcome] = 1
	for used, want := range []int64{0, 0, 0, 57, 57, 66} {
		b := begun(t, 60)
		b.root(ref.Of(ref.Dcss, 8))
		if used > 0 {
			b.lay(ref.Dcss, whole[:used]...)
		}
		wantLogic(t, b, node.Root, want)
	}
	b := begun(t, api.MaxCells)
	wantLogic(t, b.root(ref.Of(ref.Dcss, api.MaxCells)), node.Root, 0)
	wantLogic(t, b.root(ref.Of(ref.Dcss, 60)), node.Root, 0)
}

func TestLogicOfNoSlot(t *testing.T) {
	b := begun(t, 60)
	slots := []int{0, -1, -6, 8, 9, 60, 61, api.MaxCells, api.MaxCells + 1, 1 << 32, 1<<32 + 6, math.MinInt, math.MinInt + 6, math.MaxInt}
	for _, slot := range slots {
		wantLogic(t, b, slot, 0)
	}
	none := bed{fresh(t, 9), t}
	for _, slot := range append(slots, 1, 6, 7) {
		wantLogic(t, none, slot, 0)
	}
	if view.Logic(nil, 6) != 0 {
		t.Errorf("9.1: Logic of no memory is not 0")
	}
}

// Any used cell may be asked for.
func TestLogicOfEachCell(t *testing.T) {
	// No key here is a Dcss's word.
	b := idealOver(t, rising(12)...)
	for i, x := range b.Cells() {
		wantLogic(t, b, i+1, x)
	}
}
