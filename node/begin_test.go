package node_test

import (
	"slices"
	"testing"

	"ordinate/api"
	"ordinate/mem"
	"ordinate/node"
	"ordinate/ref"
)

// counts is what a memory tells of its accesses.
type counts struct{ count, odd, refused int }

func countsOf(m *mem.Mem) counts {
	return counts{m.Count(), m.Odd(), m.Refused()}
}

func wantBegun(t *testing.T, m *mem.Mem) {
	t.Helper()
	ahead := countsOf(m)
	if !node.Begin(m) {
		t.Errorf("8.3: Begin of %d cells, none of them used, is false", m.Size())
	}
	if got := m.Cells(); !slices.Equal(got, []int64{1, 0, 0, 0, 0, 57, 0}) || m.Used() != 7 {
		t.Errorf("8.3: behind Begin there are %v, Used is %d", got, m.Used())
	}
	ahead.count += 2
	if got := countsOf(m); got != ahead {
		t.Errorf("8.3: behind Begin Count, Odd, Refused are %v, not %v", got, ahead)
	}
}

func wantNotBegun(t *testing.T, m *mem.Mem) {
	t.Helper()
	ahead, cells := countsOf(m), m.Cells()
	if node.Begin(m) {
		t.Errorf("8.3: Begin of %d cells, %d of them used, is true", m.Size(), len(cells))
	}
	if got := m.Cells(); !slices.Equal(got, cells) || m.Used() != len(cells) {
		t.Errorf("8.3: Begin told false, and cells are %v, not %v", got, cells)
	}
	if got := countsOf(m); got != ahead {
		t.Errorf("8.3: Begin told false, and Count, Odd, Refused are %v, not %v", got, ahead)
	}
}

func TestBeginWhereThereIsRoom(t *testing.T) {
	for _, size := range []int{7, 8, 9, 13, 14, 500, api.MaxCells - 1, api.MaxCells} {
		m := fresh(t, size)
		wantBegun(t, m)
		if m.Size() != size {
			t.Errorf("8.3: behind Begin Size is %d, not %d", m.Size(), size)
		}
	}
}

func TestBeginWithoutRoom(t *testing.T) {
	for size := 1; size <= 6; size++ {
		m := fresh(t, size)
		wantNotBegun(t, m)
		wantNotBegun(t, m)
		// All cells are still to be had.
		if at, ok := m.Make(make([]int64, size)); at != 1 || !ok {
			t.Errorf("8.3: behind Begin of %d cells they are made at %d: %t", size, at, ok)
		}
	}
}

func TestBeginTwice(t *testing.T) {
	for _, size := range []int{7, 8, 14, 500, api.MaxCells} {
		m := fresh(t, size)
		wantBegun(t, m)
		wantNotBegun(t, m)
		wantNotBegun(t, m)
	}
}

func TestBeginWhereCellsAreUsed(t *testing.T) {
	for _, size := range []int{1, 6, 7, 8, 9, 14, 500} {
		for used := 1; used <= min(size, 9); used++ {
			m := fresh(t, size)
			// A cell that holds 0 is used, too.
			m.Make(make([]int64, used))
			wantNotBegun(t, m)
		}
	}
}

// Accesses that used no cell are no hindrance.
func TestBeginBehindAccessesThatUsedNothing(t *testing.T) {
	calls := []func(m *mem.Mem){
		func(m *mem.Mem) { m.Make(nil) },
		func(m *mem.Mem) { m.Make(make([]int64, m.Size()+1)) },
		func(m *mem.Mem) { m.Read(1) },
		func(m *mem.Mem) { m.Write(node.Root, 5) },
		func(m *mem.Mem) { m.Cas(1, 0, 1) },
		func(m *mem.Mem) { m.Add(node.First, 1) },
	}
	for _, call := range calls {
		for _, size := range []int{7, 8, 50} {
			m := fresh(t, size)
			call(m)
			wantBegun(t, m)
		}
		small := fresh(t, 6)
		call(small)
		wantNotBegun(t, small)
	}
	m := fresh(t, 7)
	for _, call := range calls {
		call(m)
	}
	wantBegun(t, m)
	if got := countsOf(m); got != (counts{8, 4, 2}) {
		t.Errorf("8.3: Count, Odd, Refused are %v", got)
	}
}

// The records stand where the constants say, and the slot's word refers to the Empty.
func TestWhatBeginMade(t *testing.T) {
	m := fresh(t, 20)
	wantBegun(t, m)
	if at := node.ChildAt(node.Base, int(m.At(node.Base+node.Degree)), 0); at != node.Root {
		t.Errorf("8.3: the child of Base is at %d", at)
	}
	if m.At(node.Base+node.Degree) != 1 || m.At(node.Base+node.Size) != 0 || m.At(node.Base+node.Shut) != 0 {
		t.Errorf("8.3: Base is of degree %d, size %d, Shut %d", m.At(node.Base+node.Degree), m.At(node.Base+node.Size), m.At(node.Base+node.Shut))
	}
	if w := m.At(node.Root); ref.Kind(w) != ref.Empty || ref.At(w) != node.First {
		t.Errorf("8.3: at Root stands the word of the kind %d at %d", ref.Kind(w), ref.At(w))
	}
	if at, ok := m.Make(node.LeafWords(4, 5)); at != 8 || !ok {
		t.Errorf("8.3: behind Begin a Leaf is made at %d: %t", at, ok)
	}
}

func TestBeginOfClones(t *testing.T) {
	m := fresh(t, 9)
	c := m.Clone()
	wantBegun(t, m)
	if c.Used() != 0 {
		t.Errorf("8.3: Begin of a memory is seen in its clone")
	}
	wantBegun(t, c)
	wantNotBegun(t, m.Clone())
	// What one of both does to its records the other one doesn't see.
	m.Write(node.Root, 66)
	if c.At(node.Root) != 57 {
		t.Errorf("8.3: two memories share the records of Begin")
	}
}

// 0.4: nothing is kept from one memory to the next.
func TestBeginOfManyMemories(t *testing.T) {
	for range 20 {
		m := fresh(t, 7)
		wantBegun(t, m)
		for a := node.Base; a <= node.First; a++ {
			m.Write(a, -1)
		}
		wantNotBegun(t, fresh(t, 6))
	}
}

func TestBeginOfNoMemory(t *testing.T) {
	if node.Begin(nil) {
		t.Errorf("8.3: Begin of no memory is true")
	}
}
