package read_test

import (
	"fmt"
	"math"
	"slices"
	"testing"

	"ordinate/api"
	"ordinate/mem"
	"ordinate/node"
	"ordinate/read"
	"ordinate/ref"
)

// wantOneEach: no call panics, each Step is one access till the frame is done, none is one behind that, and no cell is turned but those that may be. What an odd access leads to, and so whether it comes to an end, isn't said.
func wantOneEach(t *testing.T, m *mem.Mem, slot int, may []int, what string) {
	t.Helper()
	f := read.New(slot)
	cells := m.Cells()
	for i := 1; i <= 10*round && !f.Done(); i++ {
		ahead := m.Count()
		wantAhead(t, m, f, what)
		if over := f.Step(m); over != f.Done() || m.Count() != ahead+1 {
			t.Errorf("0.5: the Step %d is %t, Done %t, of %d accesses: %s", i, over, f.Done(), m.Count()-ahead, what)
		}
		for j, x := range m.Cells() {
			if x != cells[j] && !slices.Contains(may, j+1) {
				t.Errorf("13.1: the Step %d turned the cell %d: %s", i, j+1, what)
			}
		}
	}
	if f.Done() {
		wantEnd(t, m, f, f.Word(), what)
	}
}

func TestSlotsThatAreNone(t *testing.T) {
	slots := []int{
		0, -1, -5, -6, -8, 20, 21, 40, 41, api.MaxCells, api.MaxCells + 1, 1 << 32, 1<<32 + 6, -1 << 32,
		math.MinInt, math.MinInt + 6, math.MaxInt, math.MaxInt - 3, math.MaxInt - 8,
	}
	for _, slot := range slots {
		wantOneEach(t, hung(t, 0, 0), slot, nil, fmt.Sprint("the slot ", slot))
		wantOneEach(t, fresh(t, 40), slot, nil, fmt.Sprint("no cell is used, the slot ", slot))
	}
	for _, slot := range []int{1, 6, 7} {
		wantOneEach(t, fresh(t, 40), slot, nil, fmt.Sprint("no cell is used, the slot ", slot))
	}
}

// A slot whose word is a Dcss's of an address at which none lies, or not a whole one.
func TestAddressesOfNoDcss(t *testing.T) {
	for _, at := range []int{16, 17, 18, 19, 20, 36, 40, 41, 1000, api.MaxCells - 4, api.MaxCells - 3, api.MaxCells} {
		for guard := range int64(2) {
			m := hung(t, guard, 0)
			m.Write(6, ref.Of(ref.Dcss, at))
			wantOneEach(t, m, 6, []int{6, at + node.Outcome}, fmt.Sprintf("no Dcss lies at %d, the guard %d", at, guard))
		}
	}
	for used := range 5 {
		for outcome := range int64(3) {
			m := begun(t, 8+used)
			if used > 0 {
				m.Make([]int64{3, 6, 57, 66, outcome}[:used])
			}
			m.Write(6, 69)
			wantOneEach(t, m, 6, []int{6, 12}, fmt.Sprintf("%d cells of the Dcss are used", used))
		}
	}
	m := begun(t, api.MaxCells)
	m.Write(6, ref.Of(ref.Dcss, api.MaxCells))
	wantOneEach(t, m, 6, []int{6}, "a Dcss at the last cell, which isn't used")
}

// A Dcss whose Guard, or whose Place, is no used cell.
func TestCellsThatAreNone(t *testing.T) {
	none := []int64{0, -1, -3, -6, 20, 40, 41, api.MaxCells, api.MaxCells + 1, 1 << 32, 1<<32 + 3, 1<<32 + 6, least, least + 6, greatest}
	for _, a := range none {
		for outcome := range int64(3) {
			m := hung(t, 0, outcome)
			m.Write(8+node.Guard, a)
			wantOneEach(t, m, 6, []int{6, 12}, fmt.Sprintf("the Guard is %d, the Outcome %d", a, outcome))
			m = hung(t, 0, outcome)
			m.Write(8+node.Place, a)
			wantOneEach(t, m, 6, []int{12}, fmt.Sprintf("the Place is %d, the Outcome %d", a, outcome))
		}
	}
}

// Where there is no memory there is no access: the frame stays where it is, and goes on when there is one.
func TestNoMemory(t *testing.T) {
	m := hung(t, 0, 0)
	f := read.New(6)
	at := turns{4: {12: 1}, 8: {6: 66}}
	for i := 1; i <= 1+round; i++ {
		if f.Step(nil) || f.Done() || f.Word() != 0 {
			t.Errorf("0.5: without a memory Step is true ahead of the access %d, or it is Done, or there is a Word: %d", i, f.Word())
		}
		wantSteps(t, m, f, i, i, 1+round, at, "a Step without a memory ahead of it")
	}
	if !f.Step(nil) {
		t.Error("0.5: at its end Step without a memory is false")
	}
	wantEnd(t, m, f, 66, "a Step without a memory behind it")
}
