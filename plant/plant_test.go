package plant_test

import (
	"slices"
	"testing"

	"ordinate/api"
	"ordinate/mem"
	"ordinate/node"
	"ordinate/part"
	"ordinate/plant"
	"ordinate/ref"
	"ordinate/view"
)

func TestChapterExamples(t *testing.T) {
	m := fresh(t, 64)
	w, ok := plant.Build(m, []api.Pair{{Key: 1, Value: 10}, {Key: 2, Value: 20}, {Key: 3, Value: 30}})
	if w != 123 || !ok || m.Used() != 22 {
		t.Errorf("10.1: Build is %d, %t, Used is %d", w, ok, m.Used())
	}
	if ref.Kind(w) != ref.Inner || ref.At(w) != 15 {
		t.Errorf("10.1: the word is of the kind %d at %d", ref.Kind(w), ref.At(w))
	}
	want := []int64{1, 10, 2, 20, 2, 2, 0, 0, 0, 2, 10, 26, 3, 30, 2, 3, 0, 0, 0, 3, 43, 106}
	if got := m.Cells(); !slices.Equal(got, want) {
		t.Errorf("10.1: Cells is %v", got)
	}
}

// small are lists with all that Build makes of them in a memory none of whose cells is used, written out.
func small() []struct {
	l     []api.Pair
	word  int64
	makes int
	cells []int64
} {
	return []struct {
		l     []api.Pair
		word  int64
		makes int
		cells []int64
	}{
		{nil, 9, 1, []int64{0}},
		{[]api.Pair{}, 9, 1, []int64{0}},
		{pairs(7), 10, 1, []int64{7, 70}},
		{pairs(0), 10, 1, []int64{0, 0}},
		{pairs(1, 2), 43, 3, []int64{1, 10, 2, 20, 2, 2, 0, 0, 0, 2, 10, 26}},
		{pairs(-4, 1), 43, 3, []int64{-4, -40, 1, 10, 2, 2, 0, 0, 0, 1, 10, 26}},
		{pairs(1, 2, 3), 123, 5, []int64{
			1, 10, 2, 20, 2, 2, 0, 0, 0, 2, 10, 26,
			3, 30, 2, 3, 0, 0, 0, 3, 43, 106}},
		{pairs(1, 2, 3, 4), 203, 7, []int64{
			1, 10, 2, 20, 2, 2, 0, 0, 0, 2, 10, 26,
			3, 30, 4, 40, 2, 2, 0, 0, 0, 4, 106, 122,
			2, 4, 0, 0, 0, 3, 43, 139}},
		{pairs(1, 2, 3, 4, 5), 283, 9, []int64{
			1, 10, 2, 20, 2, 2, 0, 0, 0, 2, 10, 26,
			3, 30, 2, 3, 0, 0, 0, 3, 43, 106,
			4, 40, 5, 50, 2, 2, 0, 0, 0, 5, 186, 202,
			2, 5, 0, 0, 0, 4, 123, 219}},
	}
}

func TestSmallTreesWrittenOut(t *testing.T) {
	for _, x := range small() {
		m := fresh(t, 100)
		w, ok := plant.Build(m, x.l)
		if w != x.word || !ok {
			t.Errorf("10.1: Build of %v is %d, %t, not %d", x.l, w, ok, x.word)
		}
		if got := m.Cells(); !slices.Equal(got, x.cells) {
			t.Errorf("10.1: behind Build of %v cells are %v, not %v", x.l, got, x.cells)
		}
		if got, want := countsOf(m), (counts{x.makes, 0, 0, len(x.cells), 100}); got != want {
			t.Errorf("10.1: behind Build of %v Count, Odd, Refused, Used, Size are %v, not %v", x.l, got, want)
		}
		wantLaid(t, fresh(t, 100), x.l)
	}
}

// All numbers of pairs up to some hundreds: degrees that divide them, and such as do not.
func TestTreesOfAllSizes(t *testing.T) {
	for n := range 420 {
		wantLaid(t, fresh(t, 4000), rising(n, -70, 7))
		wantLaid(t, begun(t, 4000), rising(n, 1, 1))
		wantLaid(t, with(t, n%11, 4000), rising(n, -3*int64(n), 3))
	}
}

func TestTreesOfManyPairs(t *testing.T) {
	for _, n := range []int{1000, 1023, 1024, 1025, 4095, 4096, 4097, 5000, mostThatFit - 1, mostThatFit} {
		wantLaid(t, fresh(t, api.MaxCells), rising(n, -1<<40, 1<<30+1))
	}
}

// Of 11 pairs the parts have 4, 4 and 3, of 13 they have 5, 4 and 4, of 12 they are alike.
func TestLongerPartsComeFirst(t *testing.T) {
	for _, x := range []struct{ n, first, second, third int }{{9, 3, 3, 3}, {10, 4, 3, 3}, {11, 4, 4, 3}, {12, 4, 4, 4}, {13, 5, 4, 4}, {15, 5, 5, 5}} {
		m := fresh(t, 400)
		w, _ := plant.Build(m, rising(x.n, 0, 1))
		at := ref.At(w)
		if m.At(at+node.Degree) != 3 || m.At(at+node.Size) != int64(x.n) {
			t.Errorf("10.1: the Inner over %d pairs is of degree %d, size %d", x.n, m.At(at+node.Degree), m.At(at+node.Size))
		}
		if m.At(node.KeyAt(at, 1)) != int64(x.first) || m.At(node.KeyAt(at, 2)) != int64(x.first+x.second) {
			t.Errorf("10.1: the keys of the Inner over %d pairs are %d, %d", x.n, m.At(node.KeyAt(at, 1)), m.At(node.KeyAt(at, 2)))
		}
		for i, size := range []int{x.first, x.second, x.third} {
			child := m.At(node.ChildAt(at, 3, i))
			if got := m.At(ref.At(child) + node.Size); ref.Kind(child) != ref.Inner || got != int64(size) {
				t.Errorf("10.1: of %d pairs the part %d has %d, not %d", x.n, i, got, size)
			}
		}
	}
}

// records tells how many records the ideal tree over n keys has.
func records(n int) int {
	sum := 1
	for i := range part.Degree(n) {
		sum += records(part.Size(n, i))
	}
	return sum
}

func TestOneMakeARecord(t *testing.T) {
	for _, n := range []int{0, 1, 2, 3, 4, 5, 6, 8, 9, 10, 15, 16, 17, 100, 255, 256, 257, 700} {
		m := begun(t, 7+part.Cells(n))
		if _, ok := plant.Build(m, rising(n, 0, 1)); !ok || m.Used() != 7+part.Cells(n) {
			t.Errorf("10.1: Build of %d is %t, %d cells are used", n, ok, m.Used())
		}
		// Two Makes were Begin's.
		if got, want := countsOf(m), 2+records(n); got.count != want || got.odd != 0 || got.refused != 0 {
			t.Errorf("10.1: behind Build of %d Count is %d, not %d; Odd %d, Refused %d", n, got.count, want, got.odd, got.refused)
		}
	}
}

// wantTree writes the word to a slot and asks for what lies there.
func wantTree(t *testing.T, m *mem.Mem, slot int, w int64, l []api.Pair) {
	t.Helper()
	m.Write(slot, w)
	if !view.Sound(m) || !view.Calm(m) {
		t.Errorf("10.1: with the tree of %d pairs in a slot Sound is %t, Calm %t", len(l), view.Sound(m), view.Calm(m))
	}
	if got := view.Content(m, w); !slices.Equal(got, l) {
		t.Errorf("10.1: the tree of %v has %v", l, got)
	}
	if !view.Ideal(m, w) || view.Depth(m, w) != part.Depth(len(l)) {
		t.Errorf("10.1: of the tree of %d pairs Ideal is %t, Depth %d", len(l), view.Ideal(m, w), view.Depth(m, w))
	}
}

func TestWhatLiesInTheTree(t *testing.T) {
	for _, n := range []int{0, 1, 2, 3, 4, 5, 6, 7, 8, 9, 10, 15, 16, 17, 24, 25, 26, 63, 64, 65, 99, 100, 101, 250, 333, 500, 1000} {
		for _, from := range []int64{least, -35, 0, greatest - 7*1000} {
			m := begun(t, 7+part.Cells(n))
			l := rising(n, from, 7)
			w, ok := plant.Build(m, l)
			if !ok {
				t.Fatalf("10.1: Build of %d is false", n)
			}
			wantTree(t, m, node.Root, w, l)
		}
	}
}

// A tree may be laid below a slot of another one.
func TestTreesBelowTrees(t *testing.T) {
	for _, n := range []int{0, 1, 2, 3, 5, 9, 30} {
		m := begun(t, 1000)
		above, _ := plant.Build(m, pairs(100, 200, 300))
		m.Write(node.Root, above)
		l := rising(n, 300, 4)
		w, ok := plant.Build(m, l)
		if !ok {
			t.Fatalf("10.1: Build of %d is false", n)
		}
		wantTree(t, m, node.ChildAt(ref.At(above), 2, 1), w, l)
		if got := view.Content(m, above); !slices.Equal(got, slices.Concat(pairs(100, 200), l)) {
			t.Errorf("10.1: the tree above has %v", got)
		}
	}
}

func TestTheLeastAndTheGreatestKey(t *testing.T) {
	for _, keys := range [][]int64{
		{least}, {greatest}, {least, greatest}, {least, 0, greatest}, {least, least + 1}, {greatest - 1, greatest},
		{least, least + 1, greatest - 1, greatest}, {least, -1, 0, 1, greatest},
		{least, least + 1, least + 2, -3, 0, 3, greatest - 2, greatest - 1, greatest},
	} {
		m := begun(t, 200)
		w := wantLaid(t, m, pairs(keys...))
		wantTree(t, m, node.Root, w, pairs(keys...))
	}
}

func TestValuesAreAny(t *testing.T) {
	values := []int64{least, greatest, 0, 0, -1, 1, 26, 123, least + 1, greatest - 1, 57, least, 3}
	for n := range len(values) + 1 {
		var l []api.Pair
		for i, v := range values[:n] {
			l = append(l, api.Pair{Key: int64(i), Value: v})
		}
		m := begun(t, 200)
		w := wantLaid(t, m, l)
		wantTree(t, m, node.Root, w, l)
	}
}

// Keys at distances that no rule tells, values likewise.
func TestTreesOfStrewnKeys(t *testing.T) {
	x := uint64(12345)
	next := func() uint64 {
		x = x*6364136223846793005 + 1442695040888963407
		return x >> 11
	}
	for range 150 {
		var l []api.Pair
		key := int64(least) + int64(next()>>5)
		for range next() % 200 {
			l = append(l, api.Pair{Key: key, Value: int64(next() << 11)})
			key += 1 + int64(next()%(1<<(next()%55)))
		}
		m := with(t, int(next()%9), 3000)
		wantLaid(t, m, l)
		wantLaid(t, m, nil)
	}
}
