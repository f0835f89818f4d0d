package peek_test

import (
	"math"
	"slices"
	"testing"

	"ordinate/api"
	"ordinate/mem"
	"ordinate/node"
	"ordinate/peek"
)

const (
	least    = math.MinInt64
	greatest = math.MaxInt64
)

func fresh(t *testing.T, size int) *mem.Mem {
	t.Helper()
	m, why := mem.New(size)
	if why != api.OK {
		t.Fatalf("7.1: New(%d) tells %d", size, why)
	}
	return m
}

// begun is a memory behind Begin: its first 7 cells are used, at 6 stands the word 57.
func begun(t *testing.T, size int) *mem.Mem {
	t.Helper()
	m := fresh(t, size)
	if !node.Begin(m) {
		t.Fatalf("8.3: Begin of %d cells", size)
	}
	return m
}

// withDcss is a memory behind Begin with a Dcss at 8 (its word is 69), from 57 to 66, whose word stands at Root.
func withDcss(t *testing.T, outcome int64) *mem.Mem {
	t.Helper()
	m := begun(t, 40)
	m.Make([]int64{3, 6, 57, 66, outcome})
	m.Write(node.Root, 69)
	return m
}

// counts is what a memory tells of its accesses.
type counts struct{ count, odd, refused int }

func countsOf(m *mem.Mem) counts {
	return counts{m.Count(), m.Odd(), m.Refused()}
}

// wantAhead: the frame is not at its end, and tells no word yet; to ask is no access.
func wantAhead(t *testing.T, m *mem.Mem, f *peek.Frame, what string) {
	t.Helper()
	ahead := countsOf(m)
	if f.Done() || f.Word() != 0 {
		t.Errorf("0.5: ahead of its end Done is %t, Word %d: %s", f.Done(), f.Word(), what)
	}
	if got := countsOf(m); got != ahead {
		t.Errorf("0.5: Done and Word made accesses: %v, not %v: %s", got, ahead, what)
	}
}

// wantEnd: the frame is at its end, tells the word, and goes on doing so however often it is stepped, without an access.
func wantEnd(t *testing.T, m *mem.Mem, f *peek.Frame, word int64, what string) {
	t.Helper()
	ahead, cells := countsOf(m), m.Cells()
	for range 4 {
		if !f.Done() || f.Word() != word {
			t.Errorf("11.1: at its end Done is %t, Word %d, not %d: %s", f.Done(), f.Word(), word, what)
		}
		if !f.Step(m) {
			t.Errorf("0.5: Step at its end is false: %s", what)
		}
	}
	if got := countsOf(m); got != ahead {
		t.Errorf("0.5: at its end there were accesses: %v, not %v: %s", got, ahead, what)
	}
	if got := m.Cells(); !slices.Equal(got, cells) {
		t.Errorf("11.2: cells were %v, and are %v: %s", cells, got, what)
	}
}

// wantStep: the Step is one access, which is not odd, and it is the last one or not; no cell is changed.
func wantStep(t *testing.T, m *mem.Mem, f *peek.Frame, last bool, what string) {
	t.Helper()
	want, cells := countsOf(m), m.Cells()
	want.count++
	if got := f.Step(m); got != last || f.Done() != last {
		t.Errorf("0.5: Step is %t, Done behind it %t, not %t: %s", got, f.Done(), last, what)
	}
	if got := countsOf(m); got != want {
		t.Errorf("0.5: behind a Step Count, Odd, Refused are %v, not %v: %s", got, want, what)
	}
	if got := m.Cells(); !slices.Equal(got, cells) {
		t.Errorf("11.2: cells were %v, and are %v: %s", cells, got, what)
	}
}

// wantPeek steps a new frame to its end: so many accesses, that word, nothing ahead of it.
func wantPeek(t *testing.T, m *mem.Mem, slot, accesses int, word int64, what string) {
	t.Helper()
	ahead := countsOf(m)
	f := peek.New(slot)
	if got := countsOf(m); got != ahead {
		t.Errorf("0.5: New made accesses: %v, not %v: %s", got, ahead, what)
	}
	for i := 1; i <= accesses; i++ {
		wantAhead(t, m, f, what)
		wantStep(t, m, f, i == accesses, what)
	}
	wantEnd(t, m, f, word, what)
}
