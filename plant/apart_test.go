package plant_test

import (
	"slices"
	"testing"

	"ordinate/api"
	"ordinate/part"
	"ordinate/plant"
)

func TestListsAreNotChanged(t *testing.T) {
	for _, n := range []int{0, 1, 2, 3, 5, 9, 16, 100} {
		// The list has room behind it: what lies there is no more the call's than the list is.
		whole := slices.Concat(rising(n, 3, 3), pairs(-77, -78, -79, -80, -81))
		before := slices.Clone(whole)
		plant.Right(whole[:n])
		plant.Right(whole)
		plant.Build(fresh(t, 2000), whole[:n])
		plant.Build(fresh(t, 2000), whole)
		plant.Build(fresh(t, 1), whole[:n])
		if !slices.Equal(whole, before) {
			t.Errorf("0.3: a list of %d that was handed in is %v, not %v", n, whole, before)
		}
	}
}

func TestListsAreNotKept(t *testing.T) {
	for _, n := range []int{1, 2, 3, 5, 9, 16, 100} {
		l := rising(n, 3, 3)
		m := fresh(t, 2*part.Cells(n))
		wantLaid(t, m, l)
		cells := m.Cells()
		for i := range l {
			l[i] = api.Pair{Key: int64(i), Value: -99}
		}
		if got := m.Cells(); !slices.Equal(got, cells) {
			t.Errorf("0.3: who changes the list of %d changes the memory: %v", n, got)
		}
		// The same list is handed in again, with other pairs.
		wantLaid(t, m, l)
		if got := m.Cells()[:len(cells)]; !slices.Equal(got, cells) {
			t.Errorf("0.3: the next tree of %d changes the one ahead: %v", n, got)
		}
	}
}

// What is written to the memory doesn't come back to the list.
func TestTheMemoryIsNotTheLists(t *testing.T) {
	l := rising(9, 1, 1)
	m := fresh(t, 100)
	wantLaid(t, m, l)
	for a := 1; a <= m.Used(); a++ {
		m.Write(a, -1)
	}
	if !slices.Equal(l, rising(9, 1, 1)) {
		t.Errorf("0.3: who writes to the memory changes the list: %v", l)
	}
}

// 0.3: nil and the empty list are the same, with room and without.
func TestNilAndTheEmptyList(t *testing.T) {
	room := rising(3, 1, 1)
	for _, l := range [][]api.Pair{nil, {}, make([]api.Pair, 0, 5), room[:0], room[3:]} {
		if !plant.Right(l) {
			t.Errorf("10.1: Right of an empty list is false")
		}
		m := fresh(t, 2)
		if w := wantLaid(t, m, l); w != 9 {
			t.Errorf("10.1: Build of an empty list is %d", w)
		}
		if w := wantLaid(t, m, l); w != 17 {
			t.Errorf("10.1: the second Build of an empty list is %d", w)
		}
		wantNothing(t, m, l, "no cell is left")
	}
}

// 0.4: nothing is kept from one call to the next, and clones don't see each other.
func TestMemoriesAreApart(t *testing.T) {
	one := begun(t, 200)
	other := one.Clone()
	wantLaid(t, one, rising(9, 0, 1))
	if other.Used() != 7 {
		t.Errorf("0.4: Build in a memory is seen in its clone")
	}
	wantLaid(t, other, rising(10, 0, 1))
	wantLaid(t, one.Clone(), rising(9, 0, 1))
	wantLaid(t, one, rising(9, 0, 1))
	for range 5 {
		wantLaid(t, fresh(t, 22), pairs(1, 2, 3))
		wantNothing(t, fresh(t, 21), pairs(1, 2, 3), "there is one cell too few")
	}
}
