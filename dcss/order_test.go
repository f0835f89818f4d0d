package dcss_test

import (
	"fmt"
	"testing"

	"ordinate/dcss"
	"ordinate/help"
	"ordinate/mem"
)

// told is what each access of a change finds just then: the slot ahead and behind, the guard, the Outcome when it is to be settled and when it is read.
type told struct {
	first, last   int64
	held          int64
	open, outcome int64
}

// accessesOf are the accesses of a change behind the first one: the cell that each reaches, what it holds just then, and what it is turned to, if it is.
func accessesOf(c change, x told) (cells []int, holds []int64, at turns, end, outcome int) {
	cells = []int{0, 0, c.place, c.guard, c.at + 4, c.at + 4, c.place}
	holds = []int64{0, 0, x.first, x.held, x.open, x.outcome, x.last}
	at = turns{}
	if x.first != c.old {
		return cells, holds, at, 2, dcss.Not
	}
	at[2] = map[int]int64{c.place: c.word()}
	if x.open == 0 {
		at[4] = map[int]int64{c.at + 4: becomes(x.held)}
	}
	if x.last == c.word() {
		at[6] = map[int]int64{c.place: c.leads(x.outcome)}
	}
	if x.outcome == 1 {
		return cells, holds, at, whole, dcss.Done
	}
	return cells, holds, at, whole, dcss.Shut
}

// wantAccesses: each Step hangs on its own cell alone. That one holds what it is to tell then and at no other moment; all others, and it itself ahead of that, hold what leads astray.
func wantAccesses(t *testing.T, c change, x told, astray int64) {
	t.Helper()
	what := fmt.Sprintf("%+v, %+v among cells that hold %d", c, x, astray)
	m := fresh(t, 60)
	m.Make(make([]int64, 40))
	cells, holds, at, end, outcome := accessesOf(c, x)
	f := c.frame()
	for i := 1; i <= end; i++ {
		fill(m, astray)
		if i > 1 {
			m.Write(cells[i], holds[i])
		}
		wantSteps(t, m, f, c, i, i, end, at, what)
	}
	fill(m, astray)
	wantEnd(t, m, f, outcome, c.at, what)
}

func TestWhichAccessesInWhichOrder(t *testing.T) {
	for _, astray := range []int64{0, 1, 2, 3, 6, 57, 66, 333, 341, -1, least, greatest} {
		for _, c := range []change{{3, 6, 57, 66, 41}, {40, 1, 57, 66, 41}, {1, 40, 57, 66, 41}, {44, 43, 57, 66, 41}, {9, 9, 0, 1, 41}, {41, 45, 1, 0, 41}, {2, 5, 57, 57, 41}, {2, 5, -1, least, 41}} {
			wantAccesses(t, c, told{first: c.old ^ 1}, astray)
			wantAccesses(t, c, told{first: c.word()}, astray)
			for _, held := range []int64{0, 1, 2, -7} {
				for _, open := range []int64{0, 1, 2, 333} {
					for _, outcome := range []int64{0, 1, 2, -1, 257} {
						for _, last := range []int64{c.word(), c.old, c.new, 82, 334} {
							wantAccesses(t, c, told{c.old, last, held, open, outcome}, astray)
						}
					}
				}
			}
		}
	}
}

// wantBetween steps a change from 57 to 66 to its end, and behind so many accesses something is turned; what comes of it, the Outcome that its Dcss has then, and the word in the slot.
func wantBetween(t *testing.T, m *mem.Mem, behind int, turn func(), came int, outcome, word int64, what string) {
	t.Helper()
	f := usual.frame()
	end := whole
	if came == dcss.Not {
		end = 2
	}
	for i := range end {
		if i == behind {
			turn()
		}
		record := 8
		if i == 0 {
			record = 0
		}
		wantAhead(t, m, f, record, what)
		ahead := m.Count()
		if got := f.Step(m); got != (i+1 == end) || m.Count() != ahead+1 || m.Odd() != 0 {
			t.Errorf("14.1: the Step %d is %t, of %d accesses, %d are odd: %s", i+1, got, m.Count()-ahead, m.Odd(), what)
		}
	}
	if m.At(12) != outcome || m.At(6) != word {
		t.Errorf("14.1: the Outcome is %d, not %d, the slot has %d, not %d: %s", m.At(12), outcome, m.At(6), word, what)
	}
	wantEnd(t, m, f, came, 8, what)
}

// The guard is what it is at the third access.
func TestTheGuardTurnsBetween(t *testing.T) {
	for behind := range whole {
		for _, x := range []struct{ from, to int64 }{{0, 1}, {1, 0}, {0, -1}, {7, 0}} {
			m := guarded(t, x.from)
			seen := x.from
			if behind <= 2 {
				seen = x.to
			}
			outcome := becomes(seen)
			what := fmt.Sprintf("the guard turns from %d to %d behind %d accesses", x.from, x.to, behind)
			wantBetween(t, m, behind, func() { m.Write(3, x.to) }, int(outcome), outcome, usual.leads(outcome), what)
		}
	}
}

// Others settle it between two accesses: what they came to holds.
func TestTheOutcomeIsSettledBetween(t *testing.T) {
	for behind := 1; behind < whole; behind++ {
		for guard := range int64(2) {
			for settled := int64(1); settled <= 2; settled++ {
				m := guarded(t, guard)
				outcome := settled
				if behind > 3 {
					outcome = becomes(guard)
				}
				what := fmt.Sprintf("the Outcome is settled as %d behind %d accesses, the guard %d", settled, behind, guard)
				wantBetween(t, m, behind, func() { m.Cas(12, 0, settled) }, int(outcome), outcome, usual.leads(outcome), what)
			}
		}
	}
}

// Others help it to its end, and the slot goes on, or not: what came of it is told all the same.
func TestItIsHelpedBetween(t *testing.T) {
	for behind := 2; behind < whole; behind++ {
		for guard := range int64(2) {
			for _, on := range []bool{false, true} {
				m := guarded(t, guard)
				outcome := becomes(guard)
				word := usual.leads(outcome)
				turn := func() {
					h := help.New(8)
					for !h.Step(m) {
					}
					if on {
						m.Write(6, 74)
					}
				}
				if on {
					word = 74
				}
				wantBetween(t, m, behind, turn, int(outcome), outcome, word, fmt.Sprintf("it is helped behind %d accesses, the guard %d, the slot goes on: %t", behind, guard, on))
			}
		}
	}
}

// One that helps stops behind each of its accesses, and the guard is shut: whoever settles it first settles it for both.
func TestItIsHelpedInPartBetween(t *testing.T) {
	for behind := 2; behind < whole; behind++ {
		for helped := range 8 {
			m := begun(t, 40)
			outcome, word := int64(2), int64(57)
			// The frame asks the guard at its third access; the one that helps asks it at its second one, and settles the Outcome at its third.
			if behind >= 3 || helped >= 3 {
				outcome, word = 1, 66
			}
			turn := func() {
				h := help.New(8)
				for range helped {
					h.Step(m)
				}
				m.Write(3, 1)
			}
			wantBetween(t, m, behind, turn, int(outcome), outcome, word, fmt.Sprintf("%d accesses help it behind %d, then it is shut", helped, behind))
		}
	}
}

// A slot that goes on ahead of the CAS that lays the word there keeps what it has; later on the word is laid, and what is in its place stays.
func TestTheSlotGoesOnBetween(t *testing.T) {
	for behind := range whole {
		for guard := range int64(2) {
			for _, w := range []int64{66, 74, 0, 109, -1, 57} {
				m := guarded(t, guard)
				came, outcome := int(becomes(guard)), becomes(guard)
				word := w
				if behind <= 1 {
					word = usual.leads(outcome)
					if w != 57 {
						came, outcome, word = dcss.Not, 0, w
					}
				}
				what := fmt.Sprintf("the slot goes on to %d behind %d accesses, the guard %d", w, behind, guard)
				wantBetween(t, m, behind, func() { m.Write(6, w) }, came, outcome, word, what)
			}
		}
	}
}

// Somebody takes the last room, ahead of the first access.
func TestTheRoomIsGoneBetween(t *testing.T) {
	m := begun(t, 12)
	f := usual.frame()
	wantAhead(t, m, f, 0, "the room is there yet")
	m.Make([]int64{1})
	if !f.Step(m) || m.At(6) != 57 || m.Used() != 8 || m.Refused() != 1 {
		t.Errorf("14.1: the slot has %d, %d cells are used, %d Makes are refused", m.At(6), m.Used(), m.Refused())
	}
	wantEnd(t, m, f, dcss.Room, 0, "the room is gone")
}

// Where the Dcss is is known when it is made: its address is that of the cells that were the next ones then.
func TestOthersMakeAheadOfIt(t *testing.T) {
	for made := 1; made <= 20; made++ {
		m, c := begun(t, 40), usual
		f := c.frame()
		m.Make(make([]int64, made))
		c.at = 8 + made
		wantSteps(t, m, f, c, 1, 1, whole, nil, "others have made cells")
		m.Make([]int64{1, 2, 3})
		_, at := c.alone(dcss.Done)
		wantSteps(t, m, f, c, 2, whole, whole, at, "others have made cells")
		wantEnd(t, m, f, dcss.Done, c.at, "others have made cells")
	}
}

// What is told stands: behind its end nothing of the memory moves it.
func TestTheMemoryTurnsBehindTheEnd(t *testing.T) {
	for came := dcss.Not; came <= dcss.Shut; came++ {
		m, f := leading(t, came), usual.frame()
		for !f.Step(m) {
		}
		for _, w := range []int64{0, 1, 2, 57, 69, -1} {
			fill(m, w)
			wantEnd(t, m, f, came, 8, fmt.Sprint("all cells hold ", w))
		}
		m.Make([]int64{1})
		wantEnd(t, m, f, came, 8, "others have made cells")
	}
}
