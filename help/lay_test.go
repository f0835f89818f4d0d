package help_test

import (
	"fmt"
	"math"
	"slices"
	"testing"

	"ordinate/api"
	"ordinate/help"
	"ordinate/mem"
	"ordinate/node"
)

const (
	least    = math.MinInt64
	greatest = math.MaxInt64
)

// accesses is how many a help has, whatever they tell.
const accesses = 7

func fresh(t *testing.T, size int) *mem.Mem {
	t.Helper()
	m, why := mem.New(size)
	if why != api.OK {
		t.Fatalf("7.1: New(%d) tells %d", size, why)
	}
	return m
}

// begun is a memory behind Begin: its first 7 cells are used, at 3 stands the Shut that guards the slot 6, where the word 57 stands.
func begun(t *testing.T, size int) *mem.Mem {
	t.Helper()
	m := fresh(t, size)
	if !node.Begin(m) {
		t.Fatalf("8.3: Begin of %d cells", size)
	}
	return m
}

// hung is a memory behind Begin with a Dcss at 8 (its word is 69), from 57 to 66, whose word stands at Root; behind it are cells that nobody needs.
func hung(t *testing.T, guard, outcome int64) *mem.Mem {
	t.Helper()
	m := begun(t, 40)
	m.Make([]int64{3, 6, 57, 66, outcome})
	m.Make([]int64{3, 6, 74, 82, 0, 0, -1})
	m.Write(node.Base+node.Shut, guard)
	m.Write(node.Root, 69)
	return m
}

// becomes is what an open Outcome becomes, by the word of the guard.
func becomes(guard int64) int64 {
	if guard == 0 {
		return 1
	}
	return 2
}

// counts is what a memory tells of its accesses.
type counts struct{ count, odd, refused int }

func countsOf(m *mem.Mem) counts {
	return counts{m.Count(), m.Odd(), m.Refused()}
}

// turned is the list of cells with some of them turned, by their addresses.
func turned(cells []int64, turns map[int]int64) []int64 {
	other := slices.Clone(cells)
	for at, x := range turns {
		other[at-1] = x
	}
	return other
}

// wantStep: the access i (from 1 on) is one, not an odd one, Done tells behind it whether it was the seventh, and behind it just these cells are turned.
func wantStep(t *testing.T, m *mem.Mem, f *help.Frame, i int, turns map[int]int64, what string) {
	t.Helper()
	want, cells, last := countsOf(m), turned(m.Cells(), turns), i == accesses
	if f.Done() {
		t.Errorf("0.5: it is Done ahead of the access %d: %s", i, what)
	}
	if got := countsOf(m); got != want {
		t.Errorf("0.5: Done made accesses: %v, not %v: %s", got, want, what)
	}
	want.count++
	if got := f.Step(m); got != last || f.Done() != last {
		t.Errorf("12.1: the Step %d is %t, Done behind it %t: %s", i, got, f.Done(), what)
	}
	if got := countsOf(m); got != want {
		t.Errorf("0.5: behind the Step %d Count, Odd, Refused are %v, not %v: %s", i, got, want, what)
	}
	if got := m.Cells(); !slices.Equal(got, cells) {
		t.Errorf("12.1: behind the Step %d the cells are %v, not %v: %s", i, got, cells, what)
	}
}

// wantEnd: the frame is at its end, and stays there, however often it is stepped, without an access.
func wantEnd(t *testing.T, m *mem.Mem, f *help.Frame, what string) {
	t.Helper()
	ahead, cells := countsOf(m), m.Cells()
	for range 4 {
		if !f.Done() || !f.Step(m) || !f.Done() {
			t.Errorf("0.5: at its end it is not Done, or Step is false: %s", what)
		}
	}
	if got := countsOf(m); got != ahead {
		t.Errorf("0.5: at its end there were accesses: %v, not %v: %s", got, ahead, what)
	}
	if got := m.Cells(); !slices.Equal(got, cells) {
		t.Errorf("0.5: at its end cells were turned: %v, not %v: %s", got, cells, what)
	}
}

// wantHelp steps a new frame of the Dcss at the address to its end: seven accesses, the third and the seventh of which turn what they are said to.
func wantHelp(t *testing.T, m *mem.Mem, at int, third, seventh map[int]int64, what string) {
	t.Helper()
	ahead := countsOf(m)
	f := help.New(at)
	if got := countsOf(m); got != ahead {
		t.Errorf("0.5: New made accesses: %v, not %v: %s", got, ahead, what)
	}
	turns := [accesses + 1]map[int]int64{3: third, 7: seventh}
	for i := 1; i <= accesses; i++ {
		wantStep(t, m, f, i, turns[i], fmt.Sprint("the access ", i, ": ", what))
	}
	wantEnd(t, m, f, what)
}

// dice tells numbers that are the same in each run.
type dice uint64

// below tells the next one, from 0 to n - 1.
func (d *dice) below(n int) int {
	*d = *d*6364136223846793005 + 1442695040888963407
	return int((*d >> 33) % dice(n))
}
