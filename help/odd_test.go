package help_test

import (
	"fmt"
	"math"
	"slices"
	"testing"

	"ordinate/api"
	"ordinate/help"
	"ordinate/mem"
	"ordinate/node"
	"ordinate/ref"
)

// wantSteps: no call panics, each of seven Steps is one access, none is one behind that, and no cell is turned but those that may be. What an odd access leads to isn't said.
func wantSteps(t *testing.T, m *mem.Mem, at int, may []int, what string) {
	t.Helper()
	f := help.New(at)
	cells := m.Cells()
	for i := 1; i <= accesses; i++ {
		ahead := m.Count()
		if f.Done() {
			t.Errorf("12.1: it is Done ahead of the access %d: %s", i, what)
		}
		if got := f.Step(m); got != (i == accesses) || f.Done() != got || m.Count() != ahead+1 {
			t.Errorf("12.1: the Step %d is %t, Done %t, of %d accesses: %s", i, got, f.Done(), m.Count()-ahead, what)
		}
		for j, x := range m.Cells() {
			if x != cells[j] && !slices.Contains(may, j+1) {
				t.Errorf("12.1: the Step %d turned the cell %d: %s", i, j+1, what)
			}
		}
	}
	wantEnd(t, m, f, what)
}

func TestAddressesOfNoDcss(t *testing.T) {
	addresses := []int{
		0, -1, -2, -3, -4, -5, -8, math.MinInt, math.MinInt + 8, math.MaxInt, math.MaxInt - 1, math.MaxInt - 2, math.MaxInt - 3, math.MaxInt - 4, math.MaxInt - 8,
		20, 21, 40, 41, api.MaxCells - 4, api.MaxCells, api.MaxCells + 1, 1 << 32, 1<<32 + 8, -1 << 32,
	}
	for _, at := range addresses {
		for guard := range int64(2) {
			what := fmt.Sprintf("no Dcss lies at %d, the guard %d", at, guard)
			wantSteps(t, fresh(t, 40), at, nil, "no cell is used, "+what)
			// Of an address a little below 1 some of the places are used cells.
			m := hung(t, guard, 0)
			wantSteps(t, m, at, []int{at + 4, int(m.At(at + node.Place))}, what)
		}
	}
}

// A Dcss some of whose cells are not used.
func TestADcssThatIsNotWhole(t *testing.T) {
	for used := range 5 {
		for outcome := range int64(3) {
			m := begun(t, 8+used)
			if used > 0 {
				m.Make([]int64{3, 6, 57, 66, outcome}[:used])
			}
			m.Write(6, 69)
			wantSteps(t, m, 8, []int{6, 12}, fmt.Sprintf("%d cells of the Dcss are used", used))
		}
	}
	for _, at := range []int{16, 17, 18, 19, 36, 40, api.MaxCells - 3, api.MaxCells} {
		m := hung(t, 0, 0)
		m.Write(6, ref.Of(ref.Dcss, at))
		wantSteps(t, m, at, []int{6, at + 4}, fmt.Sprint("a Dcss at ", at))
	}
}

func none() []int64 {
	return []int64{0, -1, -3, -6, 20, 21, 40, 41, api.MaxCells, api.MaxCells + 1, 1 << 32, 1<<32 + 3, 1<<32 + 6, least, least + 3, least + 6, greatest}
}

// A guard that is no used cell: the Outcome is settled in one way or the other, the slot has the word that goes with it.
func TestAGuardThatIsNone(t *testing.T) {
	for _, guard := range none() {
		for outcome := range int64(3) {
			what := fmt.Sprintf("the Guard is %d, the Outcome %d", guard, outcome)
			m := hung(t, 0, outcome)
			m.Write(8+node.Guard, guard)
			wantSteps(t, m, 8, []int{6, 12}, what)
			got := m.At(12)
			if outcome != 0 && got != outcome || got != 1 && got != 2 || m.At(6) != []int64{1: 66, 2: 57}[got] || m.Odd() != 1 {
				t.Errorf("12.1: the Outcome is %d, the slot has %d, %d accesses are odd: %s", got, m.At(6), m.Odd(), what)
			}
		}
	}
}

// A slot that is no used cell: the Outcome is settled as ever, and nothing else is turned.
func TestAPlaceThatIsNone(t *testing.T) {
	for _, place := range none() {
		for guard := range int64(2) {
			what := fmt.Sprintf("the Place is %d, the guard %d", place, guard)
			m := hung(t, guard, 0)
			m.Write(8+node.Place, place)
			wantSteps(t, m, 8, []int{12}, what)
			if m.At(12) != becomes(guard) || m.Odd() != 1 {
				t.Errorf("12.1: the Outcome is %d, %d accesses are odd: %s", m.At(12), m.Odd(), what)
			}
		}
	}
	m := hung(t, 0, 0)
	m.Write(8+node.Guard, 0)
	m.Write(8+node.Place, 0)
	wantSteps(t, m, 8, []int{12}, "neither the Guard nor the Place is a used cell")
}

// Where there is no memory there is no access: the frame stays where it is, and goes on when there is one.
func TestNoMemory(t *testing.T) {
	m := hung(t, 0, 0)
	f := help.New(8)
	turns := [accesses + 1]map[int]int64{3: {12: 1}, 7: {6: 66}}
	for i := 1; i <= accesses; i++ {
		if f.Step(nil) || f.Done() {
			t.Errorf("0.5: without a memory Step is true ahead of the access %d, or it is Done", i)
		}
		wantStep(t, m, f, i, turns[i], "a Step without a memory ahead of it")
	}
	if !f.Step(nil) {
		t.Error("0.5: at its end Step without a memory is false")
	}
	wantEnd(t, m, f, "a Step without a memory behind it")
}
