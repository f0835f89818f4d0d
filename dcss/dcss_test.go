package dcss_test

import (
	"fmt"
	"slices"
	"testing"

	"ordinate/api"
	"ordinate/dcss"
	"ordinate/mem"
	"ordinate/node"
	"ordinate/plant"
	"ordinate/ref"
	"ordinate/view"
)

// steps makes so many Steps of which just the last one is the last.
func steps(t *testing.T, m *mem.Mem, f *dcss.Frame, n int) {
	t.Helper()
	for i := 1; i <= n; i++ {
		if got := f.Step(m); got != (i == n) {
			t.Errorf("14.1: the Step %d of %d is %t", i, n, got)
		}
	}
}

func TestExamples(t *testing.T) {
	m := begun(t, 40)
	f := dcss.New(3, 6, 57, 66)
	steps(t, m, f, 6)
	if f.Outcome() != dcss.Done || f.Record() != 8 || m.Read(6) != 66 {
		t.Errorf("14.1: Outcome is %d, Record %d, the slot has %d", f.Outcome(), f.Record(), m.At(6))
	}
	f = dcss.New(3, 6, 57, 74)
	steps(t, m, f, 2)
	if f.Outcome() != dcss.Not || f.Record() != 13 || m.Read(6) != 66 {
		t.Errorf("14.1: Outcome is %d, Record %d, the slot has %d", f.Outcome(), f.Record(), m.At(6))
	}
	m.Write(3, 1)
	f = dcss.New(3, 6, 66, 74)
	steps(t, m, f, 6)
	if f.Outcome() != dcss.Shut || f.Record() != 18 || m.Read(6) != 66 {
		t.Errorf("14.1: Outcome is %d, Record %d, the slot has %d", f.Outcome(), f.Record(), m.At(6))
	}
	// Begin made two accesses, the Steps 6, 2 and 6, the Reads three, the Write one.
	if m.Count() != 20 || m.Odd() != 0 || m.Used() != 22 {
		t.Errorf("14.1: Count is %d, Odd %d, Used %d", m.Count(), m.Odd(), m.Used())
	}
	want := []int64{1, 0, 1, 0, 0, 66, 0, 3, 6, 57, 66, 1, 3, 6, 57, 74, 0, 3, 6, 66, 74, 2}
	if got := m.Cells(); !slices.Equal(got, want) {
		t.Errorf("14.1: the cells are %v, not %v", got, want)
	}
}

func TestConstants(t *testing.T) {
	if got := [...]int{dcss.Not, dcss.Done, dcss.Shut, dcss.Room}; got != [...]int{0, 1, 2, 3} {
		t.Errorf("14: Not, Done, Shut, Room are %v", got)
	}
}

// A guard that is 0 lets the change be, any other one doesn't; nothing but the slot is turned, and what the Dcss has.
func TestGuards(t *testing.T) {
	for _, guard := range []int64{0, 1, 2, 3, -1, 57, 69, 256, 1 << 32, 1<<32 + 1, least, greatest} {
		outcome := dcss.Shut
		if guard == 0 {
			outcome = dcss.Done
		}
		wantChange(t, guarded(t, guard), usual, outcome, fmt.Sprint("the guard ", guard))
	}
}

// A slot with another word than the old one keeps it, whatever the guard is; a Dcss's word is another one, too.
func TestAnotherWordInTheSlot(t *testing.T) {
	words := []int64{66, 74, 0, 1, 56, 58, 61, 69, 77, 57 + 256, 57 + 1<<32, -57, -1, 8, least, greatest}
	for _, w := range words {
		for guard := range int64(2) {
			m := guarded(t, guard)
			m.Write(6, w)
			wantChange(t, m, usual, dcss.Not, fmt.Sprintf("the slot has %d, the guard %d", w, guard))
		}
	}
}

// The Dcss of another change stands in the slot: it is not helped, however far it is.
func TestAnotherChangeInTheSlot(t *testing.T) {
	for outcome := range int64(3) {
		m := begun(t, 40)
		m.Make([]int64{3, 6, 57, 66, outcome})
		m.Write(6, 69)
		what := fmt.Sprint("the slot has a Dcss's word, its Outcome is ", outcome)
		wantChange(t, m, change{3, 6, 57, 74, 13}, dcss.Not, what)
		wantChange(t, m, change{3, 6, 66, 74, 18}, dcss.Not, what)
	}
}

// What the words are isn't asked: such as no record has, the same twice, the word of that very Dcss.
func TestWords(t *testing.T) {
	words := []int64{57, 66, 83, 84, 0, 1, 2, 5, 69, 70, 109, -1, -69, 1 << 40, least, greatest}
	for _, old := range words {
		for _, next := range words {
			c := change{3, 6, old, next, 8}
			for outcome := dcss.Not; outcome <= dcss.Shut; outcome++ {
				m := begun(t, 40)
				m.Write(6, old)
				switch outcome {
				case dcss.Not:
					m.Write(6, old^8)
				case dcss.Shut:
					m.Write(3, 1)
				}
				wantChange(t, m, c, outcome, fmt.Sprintf("from %d to %d", old, next))
			}
		}
	}
}

// The guard and the slot may be any cells that are used, the first and the last ones, too, and one and the same.
func TestWhereItAllIs(t *testing.T) {
	for _, x := range []struct{ guard, place int }{{3, 6}, {1, 7}, {7, 1}, {30, 13}, {13, 30}, {30, 1}, {1, 30}, {29, 30}} {
		for _, guard := range []int64{0, 1, 57} {
			m := fresh(t, 40)
			m.Make(make([]int64, 30))
			m.Write(x.guard, guard)
			m.Write(x.place, 57)
			what := fmt.Sprintf("the guard at %d is %d, the slot at %d", x.guard, guard, x.place)
			wantChange(t, m, change{x.guard, x.place, 57, 66, 31}, int(becomes(guard)), what)
		}
	}
	// Where they are the same cell, the Dcss's word stands there when the guard is asked.
	for _, at := range []int{1, 6, 7} {
		m := begun(t, 40)
		m.Write(at, 0)
		wantChange(t, m, change{at, at, 0, 66, 8}, dcss.Shut, fmt.Sprint("the guard is the slot ", at))
	}
}

// The guard, or the slot, is a cell of the Dcss itself, that is used by when its turn comes.
func TestCellsOfItsOwn(t *testing.T) {
	for place, outcome := range []int{node.Guard: dcss.Shut, node.Place: dcss.Shut, node.Old: dcss.Shut, node.New: dcss.Shut, node.Outcome: dcss.Done} {
		c := usual
		c.guard = c.at + place
		wantChange(t, begun(t, 40), c, outcome, fmt.Sprint("the guard is its place ", place))
	}
	for _, x := range []struct {
		place   int
		old     int64
		outcome int
	}{
		{node.Guard, 3, dcss.Done}, {node.Place, 9, dcss.Done}, {node.Old, 57, dcss.Done}, {node.Old, 83, dcss.Done},
		{node.New, 57, dcss.Not}, {node.New, 66, dcss.Done}, {node.Outcome, 1, dcss.Not},
	} {
		c := change{3, 8 + x.place, x.old, 66, 8}
		wantChange(t, begun(t, 40), c, x.outcome, fmt.Sprintf("the slot is its place %d, from %d", x.place, x.old))
	}
	// An Outcome that is its own slot is not open any more when it is to be settled.
	m, c := begun(t, 40), change{3, 12, 0, 66, 8}
	f := c.frame()
	wantSteps(t, m, f, c, 1, whole, whole, turns{2: {12: 69}, 6: {12: 0}}, "the slot is its Outcome")
	wantEnd(t, m, f, dcss.Shut, 8, "the slot is its Outcome")
}

func TestNoRoom(t *testing.T) {
	for size := 7; size <= 11; size++ {
		for _, c := range []change{usual, {3, 6, 66, 74, 0}, {0, 0, 57, 66, 0}, {-1, 99, 0, 0, 0}} {
			m := begun(t, size)
			what := fmt.Sprintf("%d cells, %+v", size, c)
			wantRoom(t, m, c, what)
			m.Write(3, 1)
			wantRoom(t, m, c, what+", once more, and shut")
		}
	}
	for size := 1; size <= 4; size++ {
		wantRoom(t, fresh(t, size), usual, fmt.Sprintf("%d cells, none of which is used", size))
	}
}

func TestJustRoom(t *testing.T) {
	m := begun(t, 12)
	wantChange(t, m, usual, dcss.Done, "just room for the Dcss")
	wantRoom(t, m, change{3, 6, 66, 74, 0}, "no room for a second one")
	m = begun(t, 17)
	wantChange(t, m, change{3, 6, 66, 74, 8}, dcss.Not, "room for two")
	m.Write(3, 1)
	wantChange(t, m, change{3, 6, 57, 66, 13}, dcss.Shut, "just room for the second one")
	wantRoom(t, m, change{3, 6, 57, 66, 0}, "no room for a third one")
}

func TestTheGreatestMemory(t *testing.T) {
	for guard := range int64(2) {
		m := begun(t, api.MaxCells)
		m.Make(make([]int64, api.MaxCells-12))
		m.Write(api.MaxCells-5, guard)
		what := fmt.Sprint("the Dcss has the last cells, the guard ", guard)
		wantChange(t, m, change{api.MaxCells - 5, 6, 57, 66, api.MaxCells - 4}, int(becomes(guard)), what)
		wantRoom(t, m, usual, what+", and none is left")
	}
}

// In a tree: the slot of an Inner there, guarded by that Inner's Shut; the tree's other slots are as they were.
func TestInATree(t *testing.T) {
	for shut := range int64(2) {
		m := begun(t, 400)
		w, _ := plant.Build(m, []api.Pair{{Key: 1, Value: 10}, {Key: 2, Value: 20}, {Key: 3, Value: 30}})
		m.Write(6, w)
		n := ref.At(w)
		slot := node.ChildAt(n, 2, 1)
		leaf, _ := m.Make(node.LeafWords(3, 31))
		c := change{n + node.Shut, slot, m.At(slot), ref.Of(ref.Leaf, leaf), m.Used() + 1}
		m.Write(n+node.Shut, shut)
		spots := view.Spots(m)
		wantChange(t, m, c, int(1+shut), fmt.Sprint("in a tree, Shut ", shut))
		for i, spot := range view.Spots(m) {
			want := spots[i]
			if spot.Slot == slot {
				want.Word = c.leads(1 + shut)
			}
			if spot != want {
				t.Errorf("14.2: a slot is %v, not %v: Shut %d", spot, want, shut)
			}
		}
		if !view.Sound(m) || m.Odd() != 0 {
			t.Errorf("14.2: the tree is sound: %t, %d accesses are odd: Shut %d", view.Sound(m), m.Odd(), shut)
		}
	}
}
