package read_test

import (
	"fmt"
	"testing"

	"ordinate/mem"
	"ordinate/node"
	"ordinate/read"
	"ordinate/ref"
)

func fill(m *mem.Mem, w int64) {
	for a := 1; a <= m.Used(); a++ {
		m.Write(a, w)
	}
}

// change is what the accesses of a round find: the Dcss whose word stands in the slot that is read, the cells that its help reaches and the words that they hold just then, what the Outcome and the place hold when they are to be turned.
type change struct {
	at, guard, place    int
	held, open, outcome int64
	becomes, stood      int64
}

// access is a cell that an access reaches, what it holds just then, and what it is turned to, if it is.
type access struct {
	at    int
	holds int64
	turns map[int]int64
}

// accessesOf are those of a round, the read of the slot ahead of the help among them.
func accessesOf(slot int, x change) []access {
	word := node.Old
	if x.outcome == 1 {
		word = node.New
	}
	var settles, swings map[int]int64
	if x.open == 0 {
		settles = map[int]int64{x.at + node.Outcome: becomes(x.held)}
	}
	if x.stood == ref.Of(ref.Dcss, x.at) {
		swings = map[int]int64{x.place: x.becomes}
	}
	return []access{
		{slot, ref.Of(ref.Dcss, x.at), nil},
		{x.at + node.Guard, int64(x.guard), nil},
		{x.guard, x.held, nil},
		{x.at + node.Outcome, x.open, settles},
		{x.at + node.Outcome, x.outcome, nil},
		{x.at + node.Place, int64(x.place), nil},
		{x.at + word, x.becomes, nil},
		{x.place, x.stood, swings},
	}
}

// wantAccesses: each Step hangs on its own cell alone. That one holds what it is to tell then and at no other moment; all others, and it itself ahead of that, hold what leads astray.
func wantAccesses(t *testing.T, slot int, word int64, changes ...change) {
	t.Helper()
	var all []access
	for _, x := range changes {
		all = append(all, accessesOf(slot, x)...)
	}
	all = append(all, access{slot, word, nil})
	for _, astray := range []int64{0, 1, 2, 3, 6, 8, 57, 66, 69, 301, -1, least, greatest} {
		what := fmt.Sprintf("the slot %d, %+v, and %d then, among cells that hold %d", slot, changes, word, astray)
		m := fresh(t, 40)
		m.Make(make([]int64, 40))
		f := read.New(slot)
		for i, a := range all {
			fill(m, astray)
			m.Write(a.at, a.holds)
			wantStep(t, m, f, i == len(all)-1, a.turns, fmt.Sprintf("the access %d: %s", i+1, what))
		}
		fill(m, astray)
		wantEnd(t, m, f, word, what)
	}
}

func TestWhichAccessesInWhichOrder(t *testing.T) {
	for _, slot := range []int{1, 6, 7, 12, 40} {
		for _, word := range []int64{57, 66, 83, 84, 0, 70, -1} {
			wantAccesses(t, slot, word)
			for _, x := range []change{{at: 8, guard: 3}, {at: 1, guard: 40}, {at: 36, guard: 1}} {
				x.place, x.becomes = slot, 57
				for outcome := range int64(3) {
					x.open, x.outcome, x.held = outcome, outcome, 1-outcome/2
					x.stood = ref.Of(ref.Dcss, x.at)
					wantAccesses(t, slot, word, x)
					// Somebody else has taken it out.
					x.stood = 66
					wantAccesses(t, slot, word, x)
				}
			}
		}
	}
}

// In a later round nothing is left of the one ahead: neither its Dcss nor its guard nor what came of it.
func TestWhichAccessesInWhichRound(t *testing.T) {
	one := change{at: 8, guard: 3, place: 6, outcome: 1, becomes: 109, stood: 69}
	other := change{at: 13, guard: 25, place: 6, held: 1, outcome: 2, becomes: 69, stood: 109}
	third := change{at: 30, guard: 25, place: 20, held: -1, open: 1, outcome: 1, becomes: 74, stood: 82}
	for _, x := range [][]change{
		{one, other}, {other, one}, {one, one}, {one, third}, {third, other},
		{one, other, third}, {third, one, other}, {other, third, one}, {one, one, one, one},
	} {
		for _, word := range []int64{57, 66, 0, -9} {
			wantAccesses(t, 6, word, x...)
		}
	}
}

// readOn steps a read of Root over the Dcss at 8, behind so many accesses of which something is turned, to its end, and tells how many accesses those were.
func readOn(t *testing.T, m *mem.Mem, behind int, turn func(), what string) (*read.Frame, int) {
	t.Helper()
	f := read.New(6)
	for i := 1; i <= 5*round; i++ {
		if i == behind+1 {
			turn()
		}
		ahead := m.Count()
		wantAhead(t, m, f, what)
		over := f.Step(m)
		if over != f.Done() || m.Count() != ahead+1 || m.Odd() != 0 {
			t.Errorf("0.5: Step is %t, Done %t, of %d accesses, %d are odd: %s", over, f.Done(), m.Count()-ahead, m.Odd(), what)
		}
		if over {
			return f, i
		}
	}
	t.Fatalf("13.1: it does not end: %s", what)
	return nil, 0
}

// wantOn: how many accesses the read has, the Outcome and the word in the slot, which is what it tells.
func wantOn(t *testing.T, m *mem.Mem, behind int, turn func(), accesses int, outcome, word int64, what string) {
	t.Helper()
	f, got := readOn(t, m, behind, turn, what)
	if got != accesses || m.At(12) != outcome || m.At(6) != word {
		t.Errorf("13.1: %d accesses, not %d, the Outcome is %d, not %d, the slot has %d, not %d: %s", got, accesses, m.At(12), outcome, m.At(6), word, what)
	}
	wantEnd(t, m, f, word, what)
}

// The guard is what it is at the third access.
func TestTheGuardTurnsBetween(t *testing.T) {
	for behind := range 1 + round {
		for _, x := range []struct{ from, to int64 }{{0, 1}, {1, 0}, {0, -1}, {7, 0}} {
			m := hung(t, x.from, 0)
			seen := x.from
			if behind <= 2 {
				seen = x.to
			}
			outcome := becomes(seen)
			what := fmt.Sprintf("the guard turns from %d to %d behind %d accesses", x.from, x.to, behind)
			wantOn(t, m, behind, func() { m.Write(3, x.to) }, 1+round, outcome, leads(outcome), what)
		}
	}
}

// Others settle it between two accesses: what they came to holds.
func TestTheOutcomeIsSettledBetween(t *testing.T) {
	for behind := range 1 + round {
		for guard := range int64(2) {
			for outcome := int64(1); outcome <= 2; outcome++ {
				m := hung(t, guard, 0)
				settled := outcome
				if behind >= 4 {
					settled = becomes(guard)
				}
				what := fmt.Sprintf("the Outcome is settled as %d behind %d accesses, the guard %d", outcome, behind, guard)
				wantOn(t, m, behind, func() { m.Cas(12, 0, outcome) }, 1+round, settled, leads(settled), what)
			}
		}
	}
}

// Others take it out between two accesses: one that has seen it goes on with the help that it has begun, and turns nothing of the slot.
func TestItIsTakenOutBetween(t *testing.T) {
	for behind := range 1 + round {
		for _, w := range []int64{57, 66, 74, 0, 84, -1} {
			for outcome := int64(1); outcome <= 2; outcome++ {
				m := hung(t, 0, outcome)
				accesses := 1 + round
				if behind == 0 {
					accesses = 1
				}
				what := fmt.Sprintf("the slot goes on to %d behind %d accesses, the Outcome %d", w, behind, outcome)
				wantOn(t, m, behind, func() { m.Write(6, w) }, accesses, outcome, w, what)
			}
		}
	}
}

// Others take it out and lay another one there: that one is ended, too, in a round of its own.
func TestAnotherOneComesBetween(t *testing.T) {
	for behind := range 1 + round {
		for guard := range int64(2) {
			m := hung(t, guard, 1)
			accesses := 1 + 2*round
			if behind == 0 {
				accesses = 1 + round
			}
			word := []int64{74, 66}[guard]
			what := fmt.Sprintf("another Dcss comes behind %d accesses, the guard %d", behind, guard)
			wantOn(t, m, behind, func() { m.Write(6, 109) }, accesses, 1, word, what)
			if m.At(17) != becomes(guard) {
				t.Errorf("13.1: the other one's Outcome is %d: %s", m.At(17), what)
			}
		}
	}
}

// Another one comes, and is gone again, while the first one is helped: it is never seen.
func TestAnotherOneComesAndGoesBetween(t *testing.T) {
	m := hung(t, 0, 0)
	f := read.New(6)
	wantSteps(t, m, f, 1, 3, 0, nil, "another one comes and goes")
	m.Write(12, 1)
	m.Write(6, 109)
	wantSteps(t, m, f, 4, 8, 0, nil, "another one comes and goes")
	m.Write(6, 82)
	wantSteps(t, m, f, 9, 9, 9, nil, "another one comes and goes")
	wantEnd(t, m, f, 82, "another one comes and goes")
	if m.At(17) != 0 {
		t.Errorf("13.1: the other one's Outcome is %d", m.At(17))
	}
}

// The very same Dcss's word comes again: it is helped once more.
func TestTheSameOneComesAgain(t *testing.T) {
	m := hung(t, 0, 0)
	f := read.New(6)
	wantSteps(t, m, f, 1, 8, 0, turns{4: {12: 1}, 8: {6: 66}}, "the same one comes again")
	m.Write(6, 69)
	wantSteps(t, m, f, 9, 17, 17, turns{16: {6: 66}}, "the same one comes again")
	wantEnd(t, m, f, 66, "the same one comes again")
}

// What is told stands: behind its end nothing of the memory moves it.
func TestTheMemoryTurnsBehindTheEnd(t *testing.T) {
	m := hung(t, 0, 0)
	f := read.New(6)
	for range 1 + round {
		f.Step(m)
	}
	for _, w := range []int64{0, 69, 8, 109, -1} {
		fill(m, w)
		wantEnd(t, m, f, 66, fmt.Sprint("all cells hold ", w))
	}
}
