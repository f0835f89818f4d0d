package peek_test

import (
	"fmt"
	"math"
	"slices"
	"testing"

	"ordinate/api"
	"ordinate/mem"
	"ordinate/node"
	"ordinate/peek"
	"ordinate/ref"
)

// wantSteps: no call panics, each Step is one access till the frame is done, none behind that, and no cell is changed. What an odd access leads to isn't said.
func wantSteps(t *testing.T, m *mem.Mem, slot int, what string) {
	t.Helper()
	cells := m.Cells()
	f := peek.New(slot)
	for i := 1; !f.Done(); i++ {
		if i > 3 {
			t.Fatalf("11.1: more than three accesses: %s", what)
		}
		ahead := m.Count()
		if last := f.Step(m); last != f.Done() || m.Count() != ahead+1 {
			t.Errorf("0.5: Step is %t, Done %t, of %d accesses: %s", last, f.Done(), m.Count()-ahead, what)
		}
		if got := m.Cells(); !slices.Equal(got, cells) {
			t.Errorf("11.2: cells were %v, and are %v: %s", cells, got, what)
		}
	}
	wantEnd(t, m, f, f.Word(), what)
}

func TestSlotsThatAreNone(t *testing.T) {
	slots := []int{0, -1, -6, 8, 9, 40, 41, api.MaxCells, api.MaxCells + 1, 1 << 32, 1<<32 + 6, math.MinInt, math.MinInt + 6, math.MaxInt, math.MaxInt - 3}
	for _, slot := range slots {
		wantSteps(t, begun(t, 40), slot, fmt.Sprint("the slot ", slot))
		wantSteps(t, fresh(t, 40), slot, fmt.Sprint("no cell is used, the slot ", slot))
	}
	for _, slot := range []int{1, 6, 7} {
		wantSteps(t, fresh(t, 40), slot, fmt.Sprint("no cell is used, the slot ", slot))
	}
}

func TestADcssThatIsNotWhole(t *testing.T) {
	for used := range 5 {
		for outcome := range int64(3) {
			m := begun(t, 7+used+1)
			if used > 0 {
				m.Make([]int64{3, 6, 57, 66, outcome}[:used])
			}
			m.Write(node.Root, 69)
			wantSteps(t, m, node.Root, fmt.Sprintf("%d cells of the Dcss are used", used))
		}
	}
	for _, at := range []int{4, 7, 8, 40, 41, 60, api.MaxCells - 4, api.MaxCells - 3, api.MaxCells} {
		m := begun(t, 40)
		m.Write(node.Root, ref.Of(ref.Dcss, at))
		wantSteps(t, m, node.Root, fmt.Sprint("a Dcss at ", at))
	}
	m := begun(t, api.MaxCells)
	m.Write(node.Root, ref.Of(ref.Dcss, api.MaxCells))
	wantSteps(t, m, node.Root, "a Dcss at the last cell, which isn't used")
}

// Where there is no memory there is no access: the frame stays where it is, and goes on when there is one.
func TestNoMemory(t *testing.T) {
	m := withDcss(t, 1)
	f := peek.New(6)
	for i := range 3 {
		if f.Step(nil) || f.Done() || f.Word() != 0 {
			t.Errorf("0.5: without a memory Step is true, or Done, or there is a Word: %d", f.Word())
		}
		wantStep(t, m, f, i == 2, "a Step without a memory ahead of it")
	}
	if !f.Step(nil) {
		t.Errorf("0.5: at its end Step without a memory is false")
	}
	wantEnd(t, m, f, 66, "a Step without a memory behind it")
}
