package plant_test

import (
	"testing"

	"ordinate/api"
	"ordinate/mem"
	"ordinate/part"
	"ordinate/plant"
)

// Just so many cells are left as the tree has: it is laid; one fewer: nothing is done.
func TestJustEnoughRoom(t *testing.T) {
	for n := range 300 {
		l, cells := rising(n, -9, 2), part.Cells(n)
		for _, used := range []int{0, 1, 7, 20} {
			m := with(t, used, cells)
			wantLaid(t, m, l)
			if m.Used() != m.Size() {
				t.Errorf("10.1: Build of %d left %d cells", n, m.Size()-m.Used())
			}
			if used+cells > 1 {
				wantNothing(t, with(t, used, cells-1), l, "there is one cell too few")
			}
		}
	}
}

// However many cells there are below what is asked for, the trees of the first parts are not laid either.
func TestTooLittleRoom(t *testing.T) {
	for _, n := range []int{2, 3, 4, 5, 9, 17} {
		for left := 1; left < part.Cells(n); left++ {
			wantNothing(t, with(t, 0, left), rising(n, 0, 1), "there are too few cells, none of them used")
			wantNothing(t, with(t, 5, left), rising(n, 0, 1), "there are too few cells, some used")
		}
	}
}

func TestNoRoomAtAll(t *testing.T) {
	for _, used := range []int{1, 2, 12, 50} {
		m := with(t, used, 0)
		for _, n := range []int{0, 1, 2, 3, 50, 1000} {
			wantNothing(t, m, rising(n, 0, 1), "all cells are used")
		}
	}
}

// What counts is how many cells are left, not how many there are.
func TestRoomIsWhatIsLeft(t *testing.T) {
	m := fresh(t, 30)
	wantLaid(t, m, pairs(1, 2, 3))
	wantNothing(t, m, pairs(1, 2), "8 cells are left")
	wantLaid(t, m, pairs(4))
	wantLaid(t, m, nil)
	wantLaid(t, m, pairs(5))
	wantLaid(t, m, pairs(6))
	wantNothing(t, m, pairs(7), "one cell is left")
	wantLaid(t, m, []api.Pair{})
	wantNothing(t, m, nil, "no cell is left")
}

func TestTreesOneBehindTheOther(t *testing.T) {
	for _, sizes := range [][]int{{0, 0, 0}, {1, 1, 1}, {3, 0, 1, 2}, {9, 9}, {100, 5, 1, 0, 16}} {
		cells := 0
		for _, n := range sizes {
			cells += part.Cells(n)
		}
		m := fresh(t, cells)
		for _, n := range sizes {
			// The same keys may be laid twice: the trees know nothing of each other.
			wantLaid(t, m, rising(n, 5, 5))
		}
		wantNothing(t, m, nil, "all cells are used")
	}
}

// A tree is at the highest addresses that there are.
func TestTheLastCells(t *testing.T) {
	m := fresh(t, api.MaxCells)
	m.Make(make([]int64, api.MaxCells-22))
	if w := wantLaid(t, m, pairs(1, 2, 3)); w != 8*(api.MaxCells-7)+3 {
		t.Errorf("10.1: the word of the last Inner is %d", w)
	}
	m = fresh(t, api.MaxCells)
	m.Make(make([]int64, api.MaxCells-1))
	wantNothing(t, m, pairs(1), "one cell is left")
	if w := wantLaid(t, m, nil); w != 8*api.MaxCells+1 {
		t.Errorf("10.1: the word of the last Empty is %d", w)
	}
}

// As many keys as may be are more than the greatest memory has room for.
func TestAsManyAsMayBe(t *testing.T) {
	m := fresh(t, api.MaxCells)
	for _, n := range []int{mostThatFit + 1, 8000, api.MaxKeys - 1, api.MaxKeys} {
		l := rising(n, 0, 1)
		if !plant.Right(l) {
			t.Errorf("10.1: Right of %d is false", n)
		}
		wantNothing(t, m, l, "there are too few cells in the greatest memory")
	}
	for _, n := range []int{api.MaxKeys + 1, api.MaxKeys + 2, 2 * api.MaxKeys, 65536, 65537} {
		wantNothing(t, m, rising(n, 0, 1), "there are too many keys")
	}
	wantLaid(t, m, rising(mostThatFit, 0, 1))
}

// wrong are lists that are not Right.
func wrong() map[string][]api.Pair {
	long := rising(200, 0, 1)
	long[199].Key = 198
	return map[string][]api.Pair{
		"two alike":                   pairs(1, 1),
		"two the wrong way round":     pairs(2, 1),
		"the last two alike":          pairs(1, 2, 3, 3),
		"the first two alike":         pairs(1, 1, 2, 3),
		"a fault in the middle":       pairs(1, 2, 3, 3, 4, 5),
		"a fall in the middle":        pairs(1, 2, 3, 2, 4, 5),
		"the greatest and the least":  pairs(greatest, least),
		"the least twice":             pairs(least, least),
		"the greatest twice":          pairs(0, greatest, greatest),
		"many, the last two alike":    long,
		"more than may be":            rising(api.MaxKeys+1, 0, 1),
		"more than may be, all alike": make([]api.Pair, api.MaxKeys+1),
		"many, all alike":             make([]api.Pair, 1000),
	}
}

func TestWrongListsWithAndWithoutRoom(t *testing.T) {
	for what, l := range wrong() {
		if plant.Right(l) {
			t.Errorf("10.1: Right is true: %s", what)
		}
		for _, size := range []int{1, 7, 11, 12, 13, 100, api.MaxCells} {
			wantNothing(t, fresh(t, size), l, what)
		}
		wantNothing(t, begun(t, 7), l, what)
		wantNothing(t, begun(t, api.MaxCells), l, what)
	}
}

// What was counted ahead of the call stays as it was.
func TestCountsStayWhereNothingIsDone(t *testing.T) {
	turned := func() *mem.Mem {
		m := begun(t, 20)
		m.Read(0)
		m.Write(99, 1)
		m.Make(nil)
		m.Make(make([]int64, 14))
		m.Read(1)
		return m
	}
	for what, l := range wrong() {
		wantNothing(t, turned(), l, what)
	}
	wantNothing(t, turned(), pairs(1, 2, 3), "there are too few cells")
	wantLaid(t, turned(), pairs(1, 2))
	wantLaid(t, turned(), nil)
}

// A call that told false is no hindrance to the next one.
func TestBuildBehindOneThatToldFalse(t *testing.T) {
	m := fresh(t, 32)
	wantNothing(t, m, pairs(1, 1), "two alike")
	wantNothing(t, m, rising(5, 0, 1), "there are too few cells")
	wantLaid(t, m, rising(4, 0, 1))
}

func TestBuildInNoMemory(t *testing.T) {
	for _, l := range [][]api.Pair{nil, pairs(1), pairs(1, 2), pairs(2, 1)} {
		if w, ok := plant.Build(nil, l); w != 0 || ok {
			t.Errorf("10.1: Build in no memory is %d, %t", w, ok)
		}
	}
}
