package help_test

import (
	"fmt"
	"testing"

	"ordinate/help"
	"ordinate/mem"
	"ordinate/node"
	"ordinate/ref"
)

func fill(m *mem.Mem, w int64) {
	for a := 1; a <= m.Used(); a++ {
		m.Write(a, w)
	}
}

// told is what each access finds: the cells that are read and the words that they hold just then, what the Outcome and the slot hold when they are to be turned.
type told struct {
	at, guard, slot     int
	held, open, outcome int64
	becomes, stood      int64
}

// wantAccesses: each Step hangs on its own cell alone. That one holds what it is to tell then and at no other moment; all others, and it itself ahead of that, hold what leads astray.
func wantAccesses(t *testing.T, x told, astray int64) {
	t.Helper()
	what := fmt.Sprintf("%+v among cells that hold %d", x, astray)
	m := fresh(t, 40)
	m.Make(make([]int64, 40))
	f := help.New(x.at)
	place := node.Old
	if x.outcome == 1 {
		place = node.New
	}
	var third, seventh map[int]int64
	if x.open == 0 {
		third = map[int]int64{x.at + 4: becomes(x.held)}
	}
	if x.stood == ref.Of(ref.Dcss, x.at) {
		seventh = map[int]int64{x.slot: x.becomes}
	}
	for i, a := range []struct {
		at    int
		holds int64
		turns map[int]int64
	}{
		{x.at + 0, int64(x.guard), nil},
		{x.guard, x.held, nil},
		{x.at + 4, x.open, third},
		{x.at + 4, x.outcome, nil},
		{x.at + 1, int64(x.slot), nil},
		{x.at + place, x.becomes, nil},
		{x.slot, x.stood, seventh},
	} {
		fill(m, astray)
		m.Write(a.at, a.holds)
		wantStep(t, m, f, i+1, a.turns, what)
	}
	fill(m, astray)
	wantEnd(t, m, f, what)
}

func TestWhichAccessesInWhichOrder(t *testing.T) {
	for _, astray := range []int64{0, 1, 2, 3, 6, 8, 12, 57, 66, 69, 301, -1, least, greatest} {
		for _, x := range []told{{at: 8, guard: 3, slot: 6}, {at: 1, guard: 40, slot: 7}, {at: 36, guard: 1, slot: 2}, {at: 8, guard: 30, slot: 30}} {
			for _, x.held = range []int64{0, 1, 2, -7} {
				for _, x.open = range []int64{0, 1, 2, 69} {
					for _, x.outcome = range []int64{0, 1, 2, -1} {
						for _, x.becomes = range []int64{66, 0, 109, -9} {
							x.stood = ref.Of(ref.Dcss, x.at)
							wantAccesses(t, x, astray)
							x.stood = 83
							wantAccesses(t, x, astray)
						}
					}
				}
			}
		}
	}
}

// wantBetween: a help of a Dcss, in the middle of which, behind so many accesses, one cell is turned: how it comes out, and the word in the slot then.
func wantBetween(t *testing.T, m *mem.Mem, behind, at int, x int64, outcome, word int64, what string) {
	t.Helper()
	f := help.New(8)
	for i := range accesses {
		if i == behind {
			m.Write(at, x)
		}
		ahead := m.Count()
		if got := f.Step(m); got != (i == 6) || m.Count() != ahead+1 {
			t.Errorf("12.1: the Step %d is %t, of %d accesses: %s", i+1, got, m.Count()-ahead, what)
		}
	}
	if m.At(12) != outcome || m.At(6) != word || m.Odd() != 0 {
		t.Errorf("12.1: the Outcome is %d, not %d, the slot has %d, not %d: %s", m.At(12), outcome, m.At(6), word, what)
	}
	wantEnd(t, m, f, what)
}

// The guard is what it is at the second access.
func TestTheGuardTurnsBetween(t *testing.T) {
	for behind := range accesses {
		for _, x := range []struct{ from, to int64 }{{0, 1}, {1, 0}, {0, -1}, {7, 0}} {
			seen := x.from
			if behind <= 1 {
				seen = x.to
			}
			outcome := becomes(seen)
			what := fmt.Sprintf("the guard turns from %d to %d behind %d accesses", x.from, x.to, behind)
			wantBetween(t, hung(t, x.from, 0), behind, 3, x.to, outcome, []int64{1: 66, 2: 57}[outcome], what)
		}
	}
}

// An Outcome that is settled by somebody else ahead of the third access stays. What the slot gets hangs on what stands there at the fourth.
func TestTheOutcomeTurnsBetween(t *testing.T) {
	for behind := range 4 {
		for guard := range int64(2) {
			for _, outcome := range []int64{1, 2} {
				what := fmt.Sprintf("the Outcome turns to %d behind %d accesses, the guard %d", outcome, behind, guard)
				wantBetween(t, hung(t, guard, 0), behind, 12, outcome, outcome, []int64{1: 66, 2: 57}[outcome], what)
			}
		}
	}
	// Behind that nobody turns it; if it were turned, no more would come of that.
	for behind := 4; behind < accesses; behind++ {
		wantBetween(t, hung(t, 0, 0), behind, 12, 2, 2, 66, fmt.Sprint("the Outcome turns behind ", behind))
		wantBetween(t, hung(t, 1, 0), behind, 12, 1, 1, 57, fmt.Sprint("the Outcome turns behind ", behind))
	}
}

// Whenever the slot goes on, it stays where it has gone.
func TestTheSlotGoesOnBetween(t *testing.T) {
	for behind := range accesses {
		for guard := range int64(2) {
			for _, w := range []int64{57, 66, 74, 109, 0, -1} {
				what := fmt.Sprintf("the slot goes on to %d behind %d accesses", w, behind)
				wantBetween(t, hung(t, guard, 0), behind, 6, w, becomes(guard), w, what)
			}
		}
	}
}

// Each cell of a Dcss is read once, and in its turn.
func TestOtherCellsTurnBetween(t *testing.T) {
	for behind := range accesses {
		what := fmt.Sprintf("behind %d accesses", behind)
		outcome, word := int64(1), int64(66)
		if behind < 1 {
			outcome, word = 2, 57
		}
		// The cell 4 holds 1, as a guard that is shut.
		m := hung(t, 0, 0)
		m.Write(4, 1)
		wantBetween(t, m, behind, 8, 4, outcome, word, "the Guard turns "+what)

		word = 66
		if behind < 5 {
			word = 69
		}
		wantBetween(t, hung(t, 0, 0), behind, 9, 7, 1, word, "the Place turns "+what)

		word = 66
		if behind < 6 {
			word = 82
		}
		wantBetween(t, hung(t, 0, 0), behind, 11, 82, 1, word, "the New turns "+what)
		wantBetween(t, hung(t, 1, 0), behind, 11, 82, 2, 57, "the New turns, and it was shut, "+what)

		word = 57
		if behind < 6 {
			word = 82
		}
		wantBetween(t, hung(t, 1, 0), behind, 10, 82, 2, word, "the Old turns "+what)
		wantBetween(t, hung(t, 0, 0), behind, 10, 82, 1, 66, "the Old turns, and it was not shut, "+what)
	}
}

// What a help has told stands: behind its end nothing of the memory moves it.
func TestTheMemoryTurnsBehindTheEnd(t *testing.T) {
	m := hung(t, 0, 0)
	f := help.New(8)
	for range accesses {
		f.Step(m)
	}
	for _, w := range []int64{0, 69, 8, 109, -1} {
		fill(m, w)
		wantEnd(t, m, f, fmt.Sprint("all cells hold ", w))
	}
}
