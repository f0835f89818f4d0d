package route_test

import (
	"fmt"
	"math"
	"slices"
	"testing"

	"ordinate/api"
	"ordinate/mem"
	"ordinate/node"
	"ordinate/route"
)

// wantOneEach: no call panics, each Step is one access till the frame is done, which it is some time, none is one behind that, and no cell is turned or made. What an odd access leads to isn't said.
func wantOneEach(t *testing.T, m *mem.Mem, n int, k int64, what string) {
	t.Helper()
	f := route.New(n, k)
	cells := m.Cells()
	for i := 1; i <= 3+api.MaxCells && !f.Done(); i++ {
		ahead := countsOf(m)
		if f.Degree() != 0 || f.Child() != 0 {
			t.Errorf("0.5: ahead of the Step %d Degree is %d, Child %d: %s", i, f.Degree(), f.Child(), what)
		}
		if over := f.Step(m); over != f.Done() || m.Count() != ahead.count+1 || m.Refused() != ahead.refused {
			t.Fatalf("0.5: the Step %d is %t, Done %t, of %d accesses: %s", i, over, f.Done(), m.Count()-ahead.count, what)
		}
	}
	if !f.Done() {
		t.Errorf("0.1: it does not end: %s", what)
	}
	if got := m.Cells(); !slices.Equal(got, cells) {
		t.Errorf("15.1: cells were turned: %v, not %v: %s", short(got), short(cells), what)
	}
	if f.Done() {
		wantEnd(t, m, f, f.Degree(), f.Child(), what)
	}
}

// asked are numbers whose child may be asked for.
var asked = []int64{least, -1, 0, 5, 25, 40, 1 << 40, greatest}

func TestPlacesThatAreNone(t *testing.T) {
	places := []int{
		0, -1, -4, -5, -6, -8, 27, 40, 41, api.MaxCells, api.MaxCells + 1, 1 << 32, 1<<32 + 8, -1 << 32, 1 << 40, 1<<40 + 1,
		math.MinInt, math.MinInt + 8, math.MaxInt, math.MaxInt - 3, math.MaxInt - 8,
	}
	for _, n := range places {
		for _, k := range asked {
			wantOneEach(t, over(t, 10, 20, 30, 40), n, k, fmt.Sprintf("the place %d, %d", n, k))
			wantOneEach(t, fresh(t, 40), n, k, fmt.Sprintf("no cell is used, the place %d, %d", n, k))
		}
	}
	for n := 1; n <= 40; n++ {
		wantOneEach(t, fresh(t, 40), n, 25, fmt.Sprint("no cell is used, the place ", n))
	}
}

func TestDegreesThatMayNotBe(t *testing.T) {
	degrees := []int64{
		0, -1, -2, -5, least, least + 1, least + 2, -1 << 32, -1<<32 + 5, 1 << 32, 1<<32 + 5, 1 << 40, 1<<40 + 1, 1<<40 + 2,
		30, 1000, api.MaxKeys, api.MaxKeys + 1, api.MaxKeys + 2, api.MaxCells - 1, api.MaxCells, api.MaxCells + 1, api.MaxCells + 2,
		1 << 62, greatest - 9, greatest - 1, greatest,
	}
	for _, d := range degrees {
		for _, k := range asked {
			what := fmt.Sprintf("the degree %d, %d", d, k)
			m := over(t, 10, 20, 30, 40)
			m.Write(8+node.Degree, d)
			wantOneEach(t, m, 8, k, what)
			// It is the last cell of all that are used, or of all that there are.
			m = begun(t, 8)
			m.Make([]int64{d})
			wantOneEach(t, m, 8, k, "at the end, "+what)
		}
	}
	// Keys that aren't there tell nothing that would end it: however many are looked for, it ends.
	for _, d := range []int64{1000, api.MaxCells, api.MaxCells + 1, api.MaxCells + 2, 1 << 32, 1 << 40, greatest} {
		for _, k := range []int64{-1, 0, 1} {
			for _, first := range []int64{least, -1, 0} {
				m := begun(t, 40)
				m.Make([]int64{d, 0, 0, 0, 0, first})
				wantOneEach(t, m, 8, k, fmt.Sprintf("the key %d is there, of a degree %d, %d", first, d, k))
			}
		}
	}
}

// An Inner that isn't whole, as the used cells end within it.
func TestAnInnerThatIsNotWhole(t *testing.T) {
	words := node.InnerWords(5, []int64{10, 20, 30, 40}, make([]int64, 5))
	for used := 1; used < len(words); used++ {
		for _, k := range []int64{-5, 0, 5, 10, 25, 30, 39, 40, 41} {
			m := begun(t, 7+used)
			m.Make(words[:used])
			wantOneEach(t, m, 8, k, fmt.Sprintf("%d cells of the Inner are used, %d", used, k))
		}
	}
}

// Keys that don't rise.
func TestKeysThatDoNotRise(t *testing.T) {
	for _, q := range [][]int64{
		{40, 30, 20, 10}, {10, 40, 20, 30}, {20, 10}, {5, 5}, {5, 5, 5, 5, 5}, {10, 10, 40, 40}, {10, 90, -90, 40},
		{greatest, least}, {least, greatest, least, greatest}, {greatest, 0, least}, {0, greatest, least, 1}, {0, 0, 0, 0, 1},
	} {
		for _, k := range around(q) {
			wantOneEach(t, over(t, q...), 8, k, fmt.Sprintf("the keys %v, %d", q, k))
		}
	}
}

// Where there is no memory there is no access: the frame stays where it is, and goes on when there is one.
func TestNoMemory(t *testing.T) {
	m := over(t, 10, 20, 30, 40)
	f := route.New(8, 25)
	for i := 1; i <= 5; i++ {
		if f.Step(nil) || f.Done() || f.Degree() != 0 || f.Child() != 0 {
			t.Errorf("0.5: without a memory Step is true ahead of the access %d, or it is Done: Degree is %d, Child %d", i, f.Degree(), f.Child())
		}
		wantSteps(t, m, f, i, i, 5, "a Step without a memory ahead of it")
	}
	if !f.Step(nil) {
		t.Error("0.5: at its end Step without a memory is false")
	}
	wantEnd(t, m, f, 5, 2, "a Step without a memory behind it")
}
