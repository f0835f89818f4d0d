package ref_test

import (
	"math"
	"testing"

	"ordinate/api"
	"ordinate/ref"
)

// The kinds are constants without a type: they serve as an int and as a part of a word.
var (
	_ int   = ref.Dcss
	_ int64 = ref.Dcss
)

// allKinds is written out, so that a kind that is moved is noticed.
func allKinds() []int {
	return []int{ref.Empty, ref.Leaf, ref.Inner, ref.Rebuild, ref.Dcss}
}

func wantWord(t *testing.T, kind, at int, w int64) {
	t.Helper()
	if got := ref.Of(kind, at); got != w {
		t.Errorf("1.1: Of(%d, %d) is %d, not %d", kind, at, got, w)
	}
	if got := ref.Kind(w); got != kind {
		t.Errorf("1.1: Kind(%d) is %d, not %d", w, got, kind)
	}
	if got := ref.At(w); got != at {
		t.Errorf("1.1: At(%d) is %d, not %d", w, got, at)
	}
	if !ref.Right(w) {
		t.Errorf("1.1: Right(%d) is false", w)
	}
}

func wantNoWord(t *testing.T, w int64) {
	t.Helper()
	if ref.Right(w) || ref.Kind(w) != ref.None || ref.At(w) != 0 {
		t.Errorf("1.1: %d is no word: Right %t, Kind %d, At %d", w, ref.Right(w), ref.Kind(w), ref.At(w))
	}
}

func wantRefused(t *testing.T, kind, at int) {
	t.Helper()
	if got := ref.Of(kind, at); got != 0 {
		t.Errorf("1.1: Of(%d, %d) is %d, not 0", kind, at, got)
	}
}

func TestKindsAreNumberedInOrder(t *testing.T) {
	if ref.None != 0 {
		t.Errorf("1: None is %d", ref.None)
	}
	for i, kind := range allKinds() {
		if kind != i+1 {
			t.Errorf("1: the kind number %d is %d", i+1, kind)
		}
	}
}

func TestChapterExamples(t *testing.T) {
	wantWord(t, ref.Leaf, 3, 26)
	wantRefused(t, ref.None, 3)
	wantRefused(t, ref.Leaf, 0)
	for _, w := range []int64{8, 30, -6} {
		wantNoWord(t, w)
	}
}

func TestOrdinaryWords(t *testing.T) {
	wantWord(t, ref.Empty, 7, 57)
	wantWord(t, ref.Leaf, 2, 18)
	wantWord(t, ref.Inner, 10, 83)
	wantWord(t, ref.Rebuild, 100, 804)
	wantWord(t, ref.Dcss, 4096, 32773)
}

func TestFirstAndLastAddress(t *testing.T) {
	last := []int64{524289, 524290, 524291, 524292, 524293}
	for i, kind := range allKinds() {
		wantWord(t, kind, 1, int64(9+i))
		wantWord(t, kind, api.MaxCells, last[i])
		wantRefused(t, kind, 0)
		wantRefused(t, kind, api.MaxCells+1)
		wantNoWord(t, int64(kind))
		wantNoWord(t, 8*(api.MaxCells+1)+int64(kind))
	}
}

func TestFirstAndLastKind(t *testing.T) {
	for _, at := range []int{1, 3, api.MaxCells} {
		for _, kind := range []int{ref.Empty - 1, ref.Dcss + 1, ref.Dcss + 2} {
			wantRefused(t, kind, at)
			wantNoWord(t, int64(8*at+kind))
		}
		// Beyond the room between two addresses the sum would be another record's word.
		wantRefused(t, 8+ref.Leaf, at)
		wantRefused(t, ref.Leaf-8, at)
	}
}

func TestWrongKindsAndAddresses(t *testing.T) {
	wrongKinds := []int{math.MinInt, math.MinInt + ref.Leaf, -8, -1, ref.None, 6, 7, 8, 1 << 32, 1<<32 + ref.Leaf, math.MaxInt}
	for _, kind := range wrongKinds {
		for _, at := range []int{math.MinInt, -1, 0, 1, 3, api.MaxCells, api.MaxCells + 1, math.MaxInt} {
			wantRefused(t, kind, at)
		}
	}
	// 1 << 61 and its neighbours come round to small words when they are taken 8 times.
	wrongAts := []int{math.MinInt, math.MinInt + 3, -1 << 61, -1<<61 + 3, -api.MaxCells, -3, -1, 0, api.MaxCells + 1, 1<<32 + 3, 1 << 61, 1<<61 + 3, math.MaxInt}
	for _, at := range wrongAts {
		for _, kind := range allKinds() {
			wantRefused(t, kind, at)
		}
	}
}

func TestWordsThatAreNotRight(t *testing.T) {
	words := []int64{
		math.MinInt64, math.MinInt64 + 1, math.MinInt64 + 26, -1 << 32, -1<<32 + 26, -26, -9, -8, -6, -1,
		0, 1, 7, 8, 14, 15, 16, 8 * api.MaxCells, 8*api.MaxCells + 6, 8*api.MaxCells + 7,
		1<<32 + 26, 1<<35 + 26, 1<<62 + 26, math.MaxInt64 - 2, math.MaxInt64,
	}
	for _, w := range words {
		wantNoWord(t, w)
	}
}

func TestEveryWordThereIs(t *testing.T) {
	next := int64(-8 * (api.MaxCells + 2))
	for at := 1; at <= api.MaxCells; at++ {
		for _, kind := range allKinds() {
			w := 8*int64(at) + int64(kind)
			for ; next < w; next++ {
				wantNoWord(t, next)
			}
			wantWord(t, kind, at, w)
			next = w + 1
		}
	}
	for ; next < 8*(api.MaxCells+2); next++ {
		wantNoWord(t, next)
	}
}
