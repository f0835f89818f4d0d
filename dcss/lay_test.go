package dcss_test

import (
	"fmt"
	"math"
	"slices"
	"testing"

	"ordinate/api"
	"ordinate/dcss"
	"ordinate/mem"
	"ordinate/node"
)

const (
	least    = math.MinInt64
	greatest = math.MaxInt64
)

// whole is how many accesses a change has that comes to lay its word in the slot.
const whole = 6

func fresh(t *testing.T, size int) *mem.Mem {
	t.Helper()
	m, why := mem.New(size)
	if why != api.OK {
		t.Fatalf("7.1: New(%d) tells %d", size, why)
	}
	return m
}

// begun is a memory behind Begin: its first 7 cells are used, at 3 stands the Shut that guards the slot 6, where the word 57 stands. The next Dcss is made at 8, its Outcome is the cell 12, its word is 69.
func begun(t *testing.T, size int) *mem.Mem {
	t.Helper()
	m := fresh(t, size)
	if !node.Begin(m) {
		t.Fatalf("8.3: Begin of %d cells", size)
	}
	return m
}

// guarded is a memory behind Begin with that word of the guard.
func guarded(t *testing.T, guard int64) *mem.Mem {
	t.Helper()
	m := begun(t, 40)
	m.Write(3, guard)
	return m
}

// becomes is what an open Outcome becomes, by the word of the guard.
func becomes(guard int64) int64 {
	if guard == 0 {
		return 1
	}
	return 2
}

// counts is what a memory tells of its accesses.
type counts struct{ count, odd, refused int }

func countsOf(m *mem.Mem) counts {
	return counts{m.Count(), m.Odd(), m.Refused()}
}

// turned is the list of cells with some of them turned, by their addresses.
func turned(cells []int64, turns map[int]int64) []int64 {
	other := slices.Clone(cells)
	for at, x := range turns {
		other[at-1] = x
	}
	return other
}

// change is what New is handed, and the address at which the Dcss is to be made.
type change struct {
	guard, place int
	old, new     int64
	at           int
}

// usual is the change of Root from 57 to 66 in a memory behind Begin.
var usual = change{3, 6, 57, 66, 8}

func (c change) frame() *dcss.Frame {
	return dcss.New(c.guard, c.place, c.old, c.new)
}

// word is the word of the Dcss.
func (c change) word() int64 {
	return int64(8*c.at + 5)
}

// leads is the word that the change leaves in its slot, by its Outcome.
func (c change) leads(outcome int64) int64 {
	if outcome == 1 {
		return c.new
	}
	return c.old
}

// turns is which cells some of the accesses turn, those being numbered from 1 on.
type turns map[int]map[int]int64

// alone is how many accesses a change has that comes to that without others: Not, Done or Shut; and what they turn.
func (c change) alone(came int) (int, turns) {
	if came == dcss.Not {
		return 2, nil
	}
	outcome := int64(came)
	return whole, turns{2: {c.place: c.word()}, 4: {c.at + 4: outcome}, 6: {c.place: c.leads(outcome)}}
}

// leading is a memory behind Begin in which the usual change comes to that: Not, Done or Shut.
func leading(t *testing.T, came int) *mem.Mem {
	t.Helper()
	m := begun(t, 40)
	switch came {
	case dcss.Not:
		m.Write(6, 74)
	case dcss.Shut:
		m.Write(3, 1)
	}
	return m
}

// wantAhead: the frame is not at its end, tells nothing of it yet, and where its Dcss is as soon as that is made; to ask is no access.
func wantAhead(t *testing.T, m *mem.Mem, f *dcss.Frame, record int, what string) {
	t.Helper()
	ahead := countsOf(m)
	if f.Done() || f.Outcome() != 0 || f.Record() != record {
		t.Errorf("14.1: ahead of its end Done is %t, Outcome %d, Record %d, not %d: %s", f.Done(), f.Outcome(), f.Record(), record, what)
	}
	if got := countsOf(m); got != ahead {
		t.Errorf("0.5: Done, Outcome and Record made accesses: %v, not %v: %s", got, ahead, what)
	}
}

// wantEnd: the frame is at its end, tells what came of it and where its Dcss is, and goes on doing so however often it is stepped, without an access.
func wantEnd(t *testing.T, m *mem.Mem, f *dcss.Frame, outcome, record int, what string) {
	t.Helper()
	ahead, cells := countsOf(m), m.Cells()
	for range 4 {
		if !f.Done() || f.Outcome() != outcome || f.Record() != record {
			t.Errorf("14.1: at its end Done is %t, Outcome %d, not %d, Record %d, not %d: %s", f.Done(), f.Outcome(), outcome, f.Record(), record, what)
		}
		if !f.Step(m) {
			t.Errorf("0.5: Step at its end is false: %s", what)
		}
	}
	if got := countsOf(m); got != ahead {
		t.Errorf("0.5: at its end there were accesses: %v, not %v: %s", got, ahead, what)
	}
	if got := m.Cells(); !slices.Equal(got, cells) {
		t.Errorf("0.5: at its end cells were turned: %v, not %v: %s", got, cells, what)
	}
}

// wantSteps steps the frame of a change from one access to another one, the end of which is said. Each Step is one access, not an odd one; the first one makes the Dcss, the others turn just what they are said to.
func wantSteps(t *testing.T, m *mem.Mem, f *dcss.Frame, c change, from, to, end int, at turns, what string) {
	t.Helper()
	for i := from; i <= to; i++ {
		what := fmt.Sprintf("the access %d: %s", i, what)
		want, cells, record := countsOf(m), turned(m.Cells(), at[i]), c.at
		want.count++
		if i == 1 {
			cells, record = append(cells, int64(c.guard), int64(c.place), c.old, c.new, 0), 0
		}
		wantAhead(t, m, f, record, what)
		if got := f.Step(m); got != (i == end) || f.Done() != got {
			t.Errorf("14.1: Step is %t, Done behind it %t: %s", got, f.Done(), what)
		}
		if i < end {
			wantAhead(t, m, f, c.at, what)
		}
		if got := countsOf(m); got != want {
			t.Errorf("0.5: behind a Step Count, Odd, Refused are %v, not %v: %s", got, want, what)
		}
		if got := m.Cells(); !slices.Equal(got, cells) {
			t.Errorf("14.1: behind a Step the cells are %v, not %v: %s", got, cells, what)
		}
	}
}

// wantChange steps a new frame to its end, over a memory that nobody else turns, and which has room for the Dcss: Done, Shut or Not comes of it.
func wantChange(t *testing.T, m *mem.Mem, c change, outcome int, what string) {
	t.Helper()
	ahead := countsOf(m)
	f := c.frame()
	if got := countsOf(m); got != ahead {
		t.Errorf("0.5: New made accesses: %v, not %v: %s", got, ahead, what)
	}
	end, at := c.alone(outcome)
	wantSteps(t, m, f, c, 1, end, end, at, what)
	wantEnd(t, m, f, outcome, c.at, what)
}

// wantRoom steps a new frame to its end, over a memory without room for the Dcss: one access, nothing is turned, and there is no record.
func wantRoom(t *testing.T, m *mem.Mem, c change, what string) {
	t.Helper()
	want, cells := countsOf(m), m.Cells()
	want.count++
	want.refused++
	f := c.frame()
	wantAhead(t, m, f, 0, what)
	if !f.Step(m) {
		t.Errorf("14.1: Step is false, though there is no room: %s", what)
	}
	if got := countsOf(m); got != want {
		t.Errorf("14.1: Count, Odd, Refused are %v, not %v: %s", got, want, what)
	}
	if got := m.Cells(); !slices.Equal(got, cells) {
		t.Errorf("14.1: without room the cells are %v, not %v: %s", got, cells, what)
	}
	wantEnd(t, m, f, dcss.Room, 0, what)
}

// fill lays that word into all used cells.
func fill(m *mem.Mem, w int64) {
	for a := 1; a <= m.Used(); a++ {
		m.Write(a, w)
	}
}

// dice tells numbers that are the same in each run.
type dice uint64

// below tells the next one, from 0 to n - 1.
func (d *dice) below(n int) int {
	*d = *d*6364136223846793005 + 1442695040888963407
	return int((*d >> 33) % dice(n))
}
