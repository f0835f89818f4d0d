package mem_test

import (
	"slices"
	"testing"

	"ordinate/api"
)

func TestListsOfMakeAreNotChanged(t *testing.T) {
	m := fresh(t, 6)
	// The list has room behind it: what lies there is no more the memory's than the list is.
	room := []int64{1, 2, 77, 78, 79}
	wantMake(t, m, room[:2], 1, true)
	wantMake(t, m, []int64{3, 4}, 3, true)
	m.Write(1, 10)
	m.Add(2, 10)
	m.Cas(3, 3, 30)
	if !slices.Equal(room, []int64{1, 2, 77, 78, 79}) {
		t.Errorf("0.3: a list that was handed to Make is %v", room)
	}
	wantMake(t, m, room[1:5], 0, false)
	if !slices.Equal(room, []int64{1, 2, 77, 78, 79}) {
		t.Errorf("0.3: a list that was handed to a refused Make is %v", room)
	}
	wantCells(t, m, 10, 12, 30, 4)
}

func TestListsOfMakeAreNotKept(t *testing.T) {
	m := fresh(t, 500)
	w := rising(200, 0)
	wantMake(t, m, w, 1, true)
	clear(w)
	wantCells(t, m, rising(200, 0)...)
	// The same list is handed in again, with other words.
	copy(w, rising(200, 200))
	wantMake(t, m, w, 201, true)
	for i := range w {
		w[i] = -1
	}
	wantCells(t, m, rising(400, 0)...)
}

func TestCellsAreNewMemory(t *testing.T) {
	m := fresh(t, 10)
	empty := m.Cells()
	_ = append(empty, 5)
	m.Make([]int64{1, 2, 3})
	one, other := m.Cells(), m.Cells()
	clear(one)
	_ = append(one[:0], 9, 9, 9, 9, 9)
	_ = append(other, 8, 8, 8)
	wantCells(t, m, 1, 2, 3)
	if !slices.Equal(other, []int64{1, 2, 3}) {
		t.Errorf("0.3: two answers of Cells share memory: %v", other)
	}
	// Nor does an answer see what comes behind it.
	m.Write(1, 4)
	m.Make([]int64{5})
	m.Add(2, 5)
	if !slices.Equal(other, []int64{1, 2, 3}) || len(empty) != 0 {
		t.Errorf("0.3: an answer of Cells has changed to %v", other)
	}
	wantCells(t, m, 4, 7, 3, 5)
}

// What Cells told may be handed to Make: it is a list like any other.
func TestCellsHandedToMake(t *testing.T) {
	m := fresh(t, 6)
	m.Make([]int64{1, 2})
	told := m.Cells()
	wantMake(t, m, told, 3, true)
	told[0] = 9
	m.Write(4, 7)
	wantCells(t, m, 1, 2, 1, 7)
	if !slices.Equal(told, []int64{9, 2}) {
		t.Errorf("0.3: a list that was handed to Make is %v", told)
	}
}

func TestCloneIsAlike(t *testing.T) {
	b := freshBoth(t, 9)
	b.clone().wantAlike()
	b.makeCells(4, 5, 6)
	b.makeCells(rising(8, 0)...)
	b.read(0)
	b.write(2, -5)
	b.clone().wantAlike()
	b.clone().clone().wantAlike()
	b.wantAlike()
	// The cells that are left are left in the clone, too.
	c := b.clone()
	c.makeCells(rising(7, 0)...)
	c.makeCells(rising(6, 0)...)
	c.makeCells(1)
	c.wantAlike()
	c.clone().wantAlike()
	b.wantAlike()
}

// Either of both goes on alone: the other one stays as it is.
func TestNeitherSeesTheOther(t *testing.T) {
	calls := []func(b *both){
		func(b *both) { b.makeCells(1) },
		func(b *both) { b.makeCells(rising(20, 1)...) },
		func(b *both) { b.makeCells(rising(200, 1)...) },
		func(b *both) { b.makeCells() },
		func(b *both) { b.read(1) },
		func(b *both) { b.read(99) },
		func(b *both) { b.write(1, 5) },
		func(b *both) { b.write(99, 5) },
		func(b *both) { b.cas(2, 11, 5) },
		func(b *both) { b.cas(0, 0, 5) },
		func(b *both) { b.add(3, 5) },
		func(b *both) { b.add(-1, 5) },
	}
	for used := 1; used <= 40; used++ {
		for _, call := range calls {
			b := freshBoth(t, 60)
			b.makeCells(rising(used, 10)...)
			c := b.clone()
			call(b)
			c.wantAlike()
			b.wantAlike()
			d := b.clone()
			call(d)
			b.wantAlike()
			d.wantAlike()
			c.wantAlike()
		}
	}
}

// Both give out the cells that were left then, each its own, unlike one another.
func TestBothGoOnUnlikeOneAnother(t *testing.T) {
	for used := range 70 {
		b := freshBoth(t, 100)
		// One by one, so that there may be room behind the cells that a clone must not share.
		for i := range used {
			b.makeCells(int64(i))
		}
		c := b.clone()
		for i := range 30 {
			b.makeCells(int64(1000 + i))
			c.makeCells(int64(-1000-i), int64(i))
			b.write(1+i, int64(5*i))
			c.add(1+i, int64(7*i))
			b.cas(used+1, 1000, 3)
			c.cas(used+1, 1000, 4)
		}
		b.wantAlike()
		c.wantAlike()
	}
}

func TestClonesOfTheMostCells(t *testing.T) {
	b := freshBoth(t, api.MaxCells)
	b.makeCells(rising(api.MaxCells, 3)...)
	c := b.clone()
	b.write(1, -1)
	c.add(api.MaxCells, 1)
	c.makeCells(1)
	b.wantAlike()
	c.wantAlike()
}

// Memories that were made apart have nothing in common.
func TestTwoMemories(t *testing.T) {
	one, other := freshBoth(t, 50), freshBoth(t, 60)
	w := rising(5, 1)
	for i := range 12 {
		one.makeCells(w...)
		other.makeCells(w...)
		one.write(i, 7)
		other.add(2*i, 9)
		one.wantAlike()
		other.wantAlike()
	}
}
