package read_test

import (
	"fmt"
	"math"
	"slices"
	"testing"

	"ordinate/api"
	"ordinate/mem"
	"ordinate/node"
	"ordinate/read"
)

const (
	least    = math.MinInt64
	greatest = math.MaxInt64
)

// round is how many accesses a Dcss's word in the slot costs: the seven of its help, and the slot is read again.
const round = 8

func fresh(t *testing.T, size int) *mem.Mem {
	t.Helper()
	m, why := mem.New(size)
	if why != api.OK {
		t.Fatalf("7.1: New(%d) tells %d", size, why)
	}
	return m
}

// begun is a memory behind Begin: its first 7 cells are used, at 3 stands the Shut that guards the slot 6, where the word 57 stands.
func begun(t *testing.T, size int) *mem.Mem {
	t.Helper()
	m := fresh(t, size)
	if !node.Begin(m) {
		t.Fatalf("8.3: Begin of %d cells", size)
	}
	return m
}

// hung is a memory behind Begin with a Dcss at 8 (its word is 69), from 57 to 66, whose word stands at Root, and one at 13 (its word is 109), from 66 to 74, whose word stands nowhere.
func hung(t *testing.T, guard, outcome int64) *mem.Mem {
	t.Helper()
	m := begun(t, 40)
	m.Make([]int64{3, 6, 57, 66, outcome})
	m.Make([]int64{3, 6, 66, 74, 0, 0, -1})
	m.Write(node.Base+node.Shut, guard)
	m.Write(node.Root, 69)
	return m
}

// becomes is what an open Outcome becomes, by the word of the guard.
func becomes(guard int64) int64 {
	if guard == 0 {
		return 1
	}
	return 2
}

// leads is what the change from 57 to 66 leaves in its slot, by its Outcome.
func leads(outcome int64) int64 {
	if outcome == 1 {
		return 66
	}
	return 57
}

// counts is what a memory tells of its accesses.
type counts struct{ count, odd, refused int }

func countsOf(m *mem.Mem) counts {
	return counts{m.Count(), m.Odd(), m.Refused()}
}

// turned is the list of cells with some of them turned, by their addresses.
func turned(cells []int64, turns map[int]int64) []int64 {
	other := slices.Clone(cells)
	for at, x := range turns {
		other[at-1] = x
	}
	return other
}

// wantAhead: the frame is not at its end, and tells no word yet; to ask is no access.
func wantAhead(t *testing.T, m *mem.Mem, f *read.Frame, what string) {
	t.Helper()
	ahead := countsOf(m)
	if f.Done() || f.Word() != 0 {
		t.Errorf("0.5: ahead of its end Done is %t, Word %d: %s", f.Done(), f.Word(), what)
	}
	if got := countsOf(m); got != ahead {
		t.Errorf("0.5: Done and Word made accesses: %v, not %v: %s", got, ahead, what)
	}
}

// wantStep: the Step is one access, not an odd one, it is the last one or not, and behind it just these cells are turned.
func wantStep(t *testing.T, m *mem.Mem, f *read.Frame, last bool, turns map[int]int64, what string) {
	t.Helper()
	wantAhead(t, m, f, what)
	want, cells := countsOf(m), turned(m.Cells(), turns)
	want.count++
	if got := f.Step(m); got != last || f.Done() != last {
		t.Errorf("13.1: Step is %t, Done behind it %t, not %t: %s", got, f.Done(), last, what)
	}
	if !last {
		wantAhead(t, m, f, what)
	}
	if got := countsOf(m); got != want {
		t.Errorf("0.5: behind a Step Count, Odd, Refused are %v, not %v: %s", got, want, what)
	}
	if got := m.Cells(); !slices.Equal(got, cells) {
		t.Errorf("13.1: behind a Step the cells are %v, not %v: %s", got, cells, what)
	}
}

// wantEnd: the frame is at its end, tells the word, and goes on doing so however often it is stepped, without an access.
func wantEnd(t *testing.T, m *mem.Mem, f *read.Frame, word int64, what string) {
	t.Helper()
	ahead, cells := countsOf(m), m.Cells()
	for range 4 {
		if !f.Done() || f.Word() != word {
			t.Errorf("13.1: at its end Done is %t, Word %d, not %d: %s", f.Done(), f.Word(), word, what)
		}
		if !f.Step(m) {
			t.Errorf("0.5: Step at its end is false: %s", what)
		}
	}
	if got := countsOf(m); got != ahead {
		t.Errorf("0.5: at its end there were accesses: %v, not %v: %s", got, ahead, what)
	}
	if got := m.Cells(); !slices.Equal(got, cells) {
		t.Errorf("0.5: at its end cells were turned: %v, not %v: %s", got, cells, what)
	}
}

// turns is which cells some of the accesses of a read turn, those being numbered from 1 on.
type turns map[int]map[int]int64

// wantSteps steps a frame from one access to another one, the end of which is said.
func wantSteps(t *testing.T, m *mem.Mem, f *read.Frame, from, to, end int, at turns, what string) {
	t.Helper()
	for i := from; i <= to; i++ {
		wantStep(t, m, f, i == end, at[i], fmt.Sprintf("the access %d: %s", i, what))
	}
}

// wantRead steps a new frame to its end: so many accesses, which turn what they are said to, and that word.
func wantRead(t *testing.T, m *mem.Mem, slot, accesses int, at turns, word int64, what string) {
	t.Helper()
	ahead := countsOf(m)
	f := read.New(slot)
	if got := countsOf(m); got != ahead {
		t.Errorf("0.5: New made accesses: %v, not %v: %s", got, ahead, what)
	}
	wantSteps(t, m, f, 1, accesses, accesses, at, what)
	wantEnd(t, m, f, word, what)
}

// dice tells numbers that are the same in each run.
type dice uint64

// below tells the next one, from 0 to n - 1.
func (d *dice) below(n int) int {
	*d = *d*6364136223846793005 + 1442695040888963407
	return int((*d >> 33) % dice(n))
}
