package part_test

import (
	"math"
	"slices"
	"testing"

	"ordinate/api"
	"ordinate/part"
)

// noCounts are numbers that are not how many keys there may be.
var noCounts = []int{
	math.MinInt, math.MinInt + 1, -1 << 32, -api.MaxKeys - 1, -api.MaxKeys, -4, -3, -2, -1,
	api.MaxKeys + 1, api.MaxKeys + 2, 129 * 129, 2 * api.MaxKeys, 1 << 31, 1 << 32, 1<<32 + 4, 1 << 62, math.MaxInt - 1, math.MaxInt,
}

func wantDegree(t *testing.T, n, want int) {
	t.Helper()
	if got := part.Degree(n); got != want {
		t.Errorf("5.1: Degree(%d) is %d, not %d", n, got, want)
	}
}

func wantSize(t *testing.T, n, i, want int) {
	t.Helper()
	if got := part.Size(n, i); got != want {
		t.Errorf("5.1: Size(%d, %d) is %d, not %d", n, i, got, want)
	}
}

func wantFrom(t *testing.T, n, i, want int) {
	t.Helper()
	if got := part.From(n, i); got != want {
		t.Errorf("5.1: From(%d, %d) is %d, not %d", n, i, got, want)
	}
}

func wantDepth(t *testing.T, n, want int) {
	t.Helper()
	if got := part.Depth(n); got != want {
		t.Errorf("5.2: Depth(%d) is %d, not %d", n, got, want)
	}
}

func wantCells(t *testing.T, n, want int) {
	t.Helper()
	if got := part.Cells(n); got != want {
		t.Errorf("5.2: Cells(%d) is %d, not %d", n, got, want)
	}
}

func wantLimit(t *testing.T, n, want int) {
	t.Helper()
	if got := part.Limit(n); got != want {
		t.Errorf("5.2: Limit(%d) is %d, not %d", n, got, want)
	}
}

// wantParts asks for all parts of n, and for what stands beside them on both sides.
func wantParts(t *testing.T, n int, sizes ...int) {
	t.Helper()
	wantDegree(t, n, len(sizes))
	ahead := 0
	for i, size := range sizes {
		wantSize(t, n, i, size)
		wantFrom(t, n, i, ahead)
		ahead += size
	}
	for _, i := range []int{math.MinInt, -len(sizes), -1, len(sizes), len(sizes) + 1, n, math.MaxInt} {
		if i < 0 || i >= len(sizes) {
			wantSize(t, n, i, 0)
			wantFrom(t, n, i, 0)
		}
	}
}

func TestChapterExamples(t *testing.T) {
	wantDegree(t, 2, 2)
	wantDegree(t, 8, 2)
	wantDegree(t, 9, 3)
	wantDegree(t, 100, 10)
	wantSize(t, 11, 0, 4)
	wantSize(t, 11, 2, 3)
	wantSize(t, 11, 3, 0)
	wantFrom(t, 11, 2, 8)
	wantDepth(t, 1, 0)
	wantDepth(t, 2, 1)
	wantDepth(t, 3, 2)
	wantDepth(t, 16, 3)
	wantCells(t, 0, 1)
	wantCells(t, 2, 12)
	wantCells(t, 3, 22)
	wantLimit(t, 2, 2)
	wantLimit(t, 8, 4)
}

func TestPartsOfSmallNumbers(t *testing.T) {
	wantParts(t, 0)
	wantParts(t, 1)
	wantParts(t, 2, 1, 1)
	wantParts(t, 3, 2, 1)
	wantParts(t, 4, 2, 2)
	wantParts(t, 5, 3, 2)
	wantParts(t, 7, 4, 3)
	wantParts(t, 8, 4, 4)
	wantParts(t, 9, 3, 3, 3)
	wantParts(t, 10, 4, 3, 3)
	wantParts(t, 11, 4, 4, 3)
	wantParts(t, 12, 4, 4, 4)
	wantParts(t, 15, 5, 5, 5)
	wantParts(t, 16, 4, 4, 4, 4)
	wantParts(t, 17, 5, 4, 4, 4)
	wantParts(t, 23, 6, 6, 6, 5)
	wantParts(t, 24, 6, 6, 6, 6)
	wantParts(t, 25, 5, 5, 5, 5, 5)
}

func TestPartsAroundASquare(t *testing.T) {
	wantParts(t, 99, 11, 11, 11, 11, 11, 11, 11, 11, 11)
	wantParts(t, 100, 10, 10, 10, 10, 10, 10, 10, 10, 10, 10)
	wantParts(t, 101, 11, 10, 10, 10, 10, 10, 10, 10, 10, 10)
	wantParts(t, 109, 11, 11, 11, 11, 11, 11, 11, 11, 11, 10)
	for root := 3; root*root <= api.MaxKeys; root++ {
		wantDegree(t, root*root-1, max(2, root-1))
		wantSize(t, root*root, 0, root)
		wantSize(t, root*root, root-1, root)
		wantFrom(t, root*root, root-1, root*(root-1))
		wantDegree(t, root*root, root)
		if root*root < api.MaxKeys {
			wantDegree(t, root*root+1, root)
			wantSize(t, root*root+1, 0, root+1)
			wantSize(t, root*root+1, 1, root)
			wantFrom(t, root*root+1, 1, root+1)
			wantFrom(t, root*root+1, root-1, root*(root-1)+1)
		}
	}
}

func TestTheLastPartThatHasOneMore(t *testing.T) {
	// 1000 keys go to 31 parts: 32 each, and 8 of them one more.
	wantDegree(t, 1000, 31)
	wantSize(t, 1000, 0, 33)
	wantFrom(t, 1000, 0, 0)
	wantSize(t, 1000, 7, 33)
	wantFrom(t, 1000, 7, 231)
	wantSize(t, 1000, 8, 32)
	wantFrom(t, 1000, 8, 264)
	wantSize(t, 1000, 9, 32)
	wantFrom(t, 1000, 9, 296)
	wantSize(t, 1000, 30, 32)
	wantFrom(t, 1000, 30, 968)
	wantSize(t, 1000, 31, 0)
	wantFrom(t, 1000, 31, 0)
}

func TestDepthCellsAndLimitOfOrdinaryNumbers(t *testing.T) {
	for _, x := range []struct{ n, depth, cells, limit int }{
		{0, 0, 1, 2}, {1, 0, 2, 2}, {2, 1, 12, 2}, {3, 2, 22, 2}, {4, 2, 32, 3}, {5, 3, 42, 3},
		{7, 3, 62, 3}, {8, 3, 72, 4}, {9, 3, 76, 4}, {15, 4, 136, 5}, {16, 3, 140, 6}, {17, 4, 150, 6},
		{99, 4, 886, 26}, {100, 4, 884, 27}, {101, 4, 894, 27}, {1000, 5, 9260, 252}, {5000, 5, 43944, 1252},
	} {
		wantDepth(t, x.n, x.depth)
		wantCells(t, x.n, x.cells)
		wantLimit(t, x.n, x.limit)
	}
}

// TestDepthIsOfTheDeepestPart: 226 keys go to one part of 16, which makes 3 levels, and 14 of 15, which make 4.
func TestDepthIsOfTheDeepestPart(t *testing.T) {
	wantSize(t, 226, 0, 16)
	wantSize(t, 226, 14, 15)
	wantDepth(t, 226, 5)
	wantDepth(t, 239, 5)
	wantDepth(t, 240, 4)
	// Here it is the first part that is the deepest: of 5 keys one, of 4 keys three.
	wantDepth(t, 5, 3)
	wantDepth(t, 17, 4)
}

func TestTheMostKeys(t *testing.T) {
	const n = api.MaxKeys
	wantDegree(t, n, 128)
	wantSize(t, n, 0, 128)
	wantSize(t, n, 127, 128)
	wantSize(t, n, 128, 0)
	wantFrom(t, n, 0, 0)
	wantFrom(t, n, 1, 128)
	wantFrom(t, n, 127, n-128)
	wantFrom(t, n, 128, 0)
	wantDepth(t, n, 5)
	wantCells(t, n, 147716)
	wantLimit(t, n, 4098)
	wantDegree(t, n-1, 127)
	wantSize(t, n-1, 126, 129)
	wantFrom(t, n-1, 126, n-130)
	wantDepth(t, n-1, 5)
	wantCells(t, n-1, 147832)
	wantLimit(t, n-1, 4097)
}

// dealt deals n keys round to so many parts: those in front get the rest.
func dealt(n, parts int) []int {
	sizes := make([]int, parts)
	for key := range n {
		sizes[key%parts]++
	}
	return sizes
}

// rootByTrying is the square root as it is defined.
func rootByTrying(n int) int {
	root := 0
	for (root+1)*(root+1) <= n {
		root++
	}
	return root
}

// TestAllCounts holds each call against trees that are made from the parts up, for each n that may be.
func TestAllCounts(t *testing.T) {
	depths, cells := []int{0, 0}, []int{1, 2}
	wantLimit(t, 0, 2)
	wantLimit(t, 1, 2)
	for n := 2; n <= api.MaxKeys; n++ {
		sizes := dealt(n, max(2, rootByTrying(n)))
		wantDegree(t, n, len(sizes))
		ahead, depth, cell := 0, 0, 4+2*len(sizes)
		for i, size := range sizes {
			wantSize(t, n, i, size)
			wantFrom(t, n, i, ahead)
			ahead += size
			depth = max(depth, depths[size])
			cell += cells[size]
		}
		wantSize(t, n, len(sizes), 0)
		wantFrom(t, n, len(sizes), 0)
		depths, cells = append(depths, 1+depth), append(cells, cell)
		wantDepth(t, n, depths[n])
		wantCells(t, n, cells[n])
		wantLimit(t, n, (n-n%4)/4+2)
	}
}

func TestCountsThatMayNotBe(t *testing.T) {
	for _, n := range noCounts {
		wantDegree(t, n, 0)
		wantDepth(t, n, 0)
		wantCells(t, n, 0)
		wantLimit(t, n, 0)
		for _, i := range []int{math.MinInt, -2, -1, 0, 1, 2, 127, 128, 129, api.MaxKeys, math.MaxInt} {
			wantSize(t, n, i, 0)
			wantFrom(t, n, i, 0)
		}
	}
}

func TestWhatIsNoPart(t *testing.T) {
	below := []int{math.MinInt, math.MinInt + 1, -1 << 32, -3, -2, -1}
	above := []int{128, 129, api.MaxKeys, 1 << 32, math.MaxInt - 1, math.MaxInt}
	for _, n := range []int{0, 1, 2, 3, 4, 9, 11, 100, 1000, api.MaxKeys - 1, api.MaxKeys} {
		for _, i := range slices.Concat(below, above) {
			wantSize(t, n, i, 0)
			wantFrom(t, n, i, 0)
		}
		for i := part.Degree(n); i < part.Degree(n)+10; i++ {
			wantSize(t, n, i, 0)
			wantFrom(t, n, i, 0)
		}
	}
}

func TestNoneAndOneHaveNoPart(t *testing.T) {
	for _, n := range []int{0, 1} {
		wantDegree(t, n, 0)
		for i := -3; i <= 3; i++ {
			wantSize(t, n, i, 0)
			wantFrom(t, n, i, 0)
		}
	}
}
