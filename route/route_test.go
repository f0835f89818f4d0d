package route_test

import (
	"fmt"
	"slices"
	"testing"

	"ordinate/api"
	"ordinate/node"
	"ordinate/plant"
	"ordinate/ref"
	"ordinate/route"
)

func TestExampleOfBase(t *testing.T) {
	m := begun(t, 7)
	f := route.New(1, 5)
	if f.Done() || f.Degree() != 0 || f.Child() != 0 || !f.Step(m) || f.Degree() != 1 || f.Child() != 0 || !f.Step(m) {
		t.Errorf("15.1: Done is %t, Degree %d, Child %d", f.Done(), f.Degree(), f.Child())
	}
	// Begin made two accesses, the first Step one, the second none.
	if m.Count() != 3 {
		t.Errorf("15.1: Count is %d", m.Count())
	}
}

func TestExampleOfFourKeys(t *testing.T) {
	m := over(t, 10, 20, 30, 40)
	f := route.New(8, 25)
	for i := 1; i <= 5; i++ {
		if f.Degree() != 0 || f.Child() != 0 {
			t.Errorf("0.5: ahead of the access %d Degree is %d, Child %d", i, f.Degree(), f.Child())
		}
		if f.Step(m) != (i == 5) {
			t.Errorf("15.1: the Step %d is %t", i, i != 5)
		}
	}
	if f.Degree() != 5 || f.Child() != 2 {
		t.Errorf("15.1: Degree is %d, Child %d", f.Degree(), f.Child())
	}
}

// How many accesses, and which child, written out.
func TestKeysByHand(t *testing.T) {
	for _, x := range []struct {
		q               []int64
		k               int64
		accesses, child int
	}{
		{nil, 5, 1, 0},
		{[]int64{7}, 6, 2, 0}, {[]int64{7}, 7, 2, 1}, {[]int64{7}, 9, 2, 1},
		{[]int64{7, 8}, 6, 2, 0}, {[]int64{7, 8}, 7, 3, 1}, {[]int64{7, 8}, 8, 3, 2}, {[]int64{7, 8}, 9, 3, 2},
		{[]int64{1, 5, 9}, 0, 2, 0}, {[]int64{1, 5, 9}, 1, 4, 1}, {[]int64{1, 5, 9}, 4, 4, 1}, {[]int64{1, 5, 9}, 5, 4, 2}, {[]int64{1, 5, 9}, 8, 4, 2}, {[]int64{1, 5, 9}, 9, 3, 3},
		{[]int64{10, 20, 30, 40}, 5, 2, 0}, {[]int64{10, 20, 30, 40}, 9, 2, 0}, {[]int64{10, 20, 30, 40}, 10, 4, 1},
		{[]int64{10, 20, 30, 40}, 20, 5, 2}, {[]int64{10, 20, 30, 40}, 30, 4, 3}, {[]int64{10, 20, 30, 40}, 39, 4, 3},
		{[]int64{10, 20, 30, 40}, 40, 3, 4}, {[]int64{10, 20, 30, 40}, 41, 3, 4},
		// Chapter 6's: 1 5 4, and 1 5 3 2.
		{[]int64{0, 1, 2, 3, 1000}, 900, 4, 4}, {[]int64{0, 997, 998, 999, 1000}, 500, 5, 1},
		{[]int64{0, 1, 2, 3, 1000}, 2, 6, 3}, {[]int64{0, 1, 2, 3, 1000}, 3, 6, 4}, {[]int64{0, 997, 998, 999, 1000}, 998, 5, 3},
		{[]int64{-5, -4, -3, -2, -1}, -6, 2, 0}, {[]int64{-5, -4, -3, -2, -1}, -3, 5, 3}, {[]int64{-5, -4, -3, -2, -1}, 0, 3, 5},
		{[]int64{least, -1, 0, 1, greatest}, least, 4, 1}, {[]int64{least, -1, 0, 1, greatest}, greatest, 3, 5},
		{[]int64{least, -1, 0, 1, greatest}, 0, 5, 3}, {[]int64{least, -1, 0, 1, greatest}, -2, 4, 1}, {[]int64{least, greatest}, 0, 3, 1},
		{[]int64{greatest}, greatest, 2, 1}, {[]int64{greatest}, least, 2, 0}, {[]int64{least}, least, 2, 1},
	} {
		wantRoute(t, over(t, x.q...), 8, x.k, x.accesses, len(x.q)+1, x.child, fmt.Sprintf("the keys %v, %d", x.q, x.k))
	}
}

func TestEachKeyAndBesideIt(t *testing.T) {
	for _, q := range [][]int64{
		nil, {0}, {-1}, {least}, {greatest}, {1, 2}, {least, greatest}, {least, least + 1}, {greatest - 1, greatest},
		{10, 20, 30, 40}, {1, 2, 3, 4, 5, 6, 7}, {-30, -20, -10, 0, 10, 20, 30}, {1, 2, 4, 8, 16, 32, 64, 128, 256, 512},
		{0, 1, 2, 3, 4, 5, 6, 1000}, {0, 994, 995, 996, 997, 998, 999, 1000}, {0, 1, 2, 500, 501, 502, 999, 1000},
		{least, least + 1, least + 2, greatest}, {least, greatest - 2, greatest - 1, greatest}, {least, -1, 0, 1, greatest},
		{least, -1 << 62, -1, 0, 1 << 62, greatest - 1}, {-1 << 62, 1 << 61, 1 << 62}, {least + 1, least + 9, 3, 4, 5, greatest},
	} {
		for _, k := range around(q) {
			wantKeys(t, q, k)
		}
	}
}

func TestKeysOfAllKinds(t *testing.T) {
	d := dice(15)
	for n := range 40 {
		for _, longest := range []int{1, 3, 100, 1 << 30} {
			q := d.rising(n, int64(d.below(2000)-1000), longest)
			for _, k := range around(q) {
				wantKeys(t, q, k)
			}
		}
	}
}

// As many keys as may be: evenly, and all but one at either end.
func TestTheMostKeys(t *testing.T) {
	const n = api.MaxKeys
	even, low, high := make([]int64, n), make([]int64, n), make([]int64, n)
	for i := range int64(n) {
		even[i], low[i], high[i] = 1000*i, i, 1_000_000+i
	}
	low[n-1], high[0] = 1_000_000_000, 0
	for _, x := range []struct {
		q               []int64
		k               int64
		accesses, child int
	}{
		{even, -1, 2, 0}, {even, 1000 * n, 3, n}, {even, 1000 * (n - 1), 3, n}, {even, 5_000_500, 5, 5001}, {even, 5_000_000, 5, 5001},
		{low, n - 2, n + 1, n - 1}, {low, 999_999_999, 4, n - 1},
		{high, 1, 4, 1}, {high, 999_999, 16121, 1},
	} {
		m := over(t, x.q...)
		f := route.New(8, x.k)
		ahead, cells := countsOf(m), m.Cells()
		for i := 1; i <= x.accesses; i++ {
			if f.Degree() != 0 || f.Child() != 0 || f.Step(m) != (i == x.accesses) {
				t.Fatalf("15.1: the Step %d of %d through %v: Degree %d, Child %d", i, x.k, short(x.q), f.Degree(), f.Child())
			}
		}
		if got := countsOf(m); got != (counts{ahead.count + x.accesses, 0, 0}) {
			t.Errorf("0.5: Count, Odd, Refused are %v behind %d accesses", got, x.accesses)
		}
		if !slices.Equal(m.Cells(), cells) {
			t.Errorf("15.1: cells were turned by %d through %v", x.k, short(x.q))
		}
		wantEnd(t, m, f, n+1, x.child, fmt.Sprintf("%d through %v", x.k, short(x.q)))
	}
}

// An Inner may lie anywhere: at the first cell, at the last ones, and its degree may be the last one.
func TestWhereAnInnerLies(t *testing.T) {
	q := []int64{10, 20, 30, 40}
	words := node.InnerWords(5, q, make([]int64, 5))
	for ahead := range 9 {
		m := fresh(t, ahead+len(words))
		if ahead > 0 {
			m.Make(make([]int64, ahead))
		}
		at, _ := m.Make(words)
		for _, k := range around(q) {
			child := int(min(max(k/10, 0), 4))
			accesses := []int{2, 4, 5, 4, 3}[child]
			wantRoute(t, m, at, k, accesses, 5, child, fmt.Sprintf("an Inner at %d, %d", at, k))
		}
	}
	m := begun(t, api.MaxCells)
	m.Make(make([]int64, api.MaxCells-7-14))
	at, _ := m.Make(words)
	if at != api.MaxCells-13 {
		t.Fatalf("7.2: the Inner is made at %d", at)
	}
	wantRoute(t, m, at, 25, 5, 5, 2, "an Inner at the end of the greatest memory")
	m.Write(api.MaxCells, 1)
	wantRoute(t, m, api.MaxCells, 25, 1, 1, 0, "the last cell is a degree of 1")
}

// A tree that plant has laid: by the routes alone each key's way ends at its Leaf.
func TestThroughATree(t *testing.T) {
	d := dice(4)
	for _, n := range []int{2, 3, 5, 16, 17, 100, 900} {
		m := begun(t, 40000)
		var l []api.Pair
		for i, k := range d.rising(n, -5000, 300) {
			l = append(l, api.Pair{Key: k, Value: int64(i)})
		}
		w, ok := plant.Build(m, l)
		if !ok {
			t.Fatal("10.1: Build")
		}
		m.Write(node.Root, w)
		for i, p := range l {
			at, levels := node.Base, 0
			for word := ref.Of(ref.Inner, node.Base); ref.Kind(word) == ref.Inner; levels++ {
				at = ref.At(word)
				f := atEnd(t, m, route.New(at, p.Key))
				word = m.At(node.ChildAt(at, f.Degree(), f.Child()))
				at = ref.At(word)
			}
			if levels < 2 || m.At(at+node.Key) != p.Key || m.At(at+node.Value) != int64(i) {
				t.Errorf("15.1: of %d keys the way of %d ends behind %d levels at the Leaf of %d", n, p.Key, levels, m.At(at+node.Key))
			}
		}
		if m.Odd() != 0 {
			t.Errorf("15.1: %d accesses are odd", m.Odd())
		}
	}
}
