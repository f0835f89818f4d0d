package peek_test

import (
	"fmt"
	"testing"

	"ordinate/mem"
	"ordinate/peek"
)

// access is a cell that is to be read, and what it holds just then.
type access struct {
	at    int
	holds int64
}

func fill(m *mem.Mem, w int64) {
	for a := 1; a <= m.Used(); a++ {
		m.Write(a, w)
	}
}

// wantAccesses: each Step hangs on its own cell alone. That one holds what it is to tell then and at no other moment; all others, and it itself ahead of that, hold what leads astray.
func wantAccesses(t *testing.T, slot int, word int64, accesses ...access) {
	t.Helper()
	for _, astray := range []int64{0, 1, 2, 57, 66, 69, 109, -1, least, greatest} {
		what := fmt.Sprintf("%v among cells that hold %d", accesses, astray)
		m := withDcss(t, 0)
		m.Make([]int64{3, 6, 74, 82, 1})
		f := peek.New(slot)
		for i, a := range accesses {
			fill(m, astray)
			wantAhead(t, m, f, what)
			m.Write(a.at, a.holds)
			wantStep(t, m, f, i == len(accesses)-1, what)
		}
		fill(m, astray)
		wantEnd(t, m, f, word, what)
	}
}

func TestWhichCellsAreRead(t *testing.T) {
	for _, slot := range []int{1, 6, 7, 12, 17} {
		for _, w := range []int64{57, 66, 83, 84, 0, 70, -1} {
			wantAccesses(t, slot, w, access{slot, w})
		}
		// The Dcss at 8: Old is at 10, New at 11, Outcome at 12.
		for _, w := range []int64{57, 66, 69, 109, 0, -7, least, greatest} {
			wantAccesses(t, slot, w, access{slot, 69}, access{12, 1}, access{11, w})
			wantAccesses(t, slot, w, access{slot, 69}, access{12, 0}, access{10, w})
			wantAccesses(t, slot, w, access{slot, 69}, access{12, 2}, access{10, w})
			wantAccesses(t, slot, w, access{slot, 69}, access{12, -1}, access{10, w})
		}
		// The Dcss at 13, and the one at 1, where Base is.
		wantAccesses(t, slot, 33, access{slot, 109}, access{17, 1}, access{16, 33})
		wantAccesses(t, slot, 33, access{slot, 109}, access{17, 2}, access{15, 33})
		wantAccesses(t, slot, 33, access{slot, 13}, access{5, 1}, access{4, 33})
		wantAccesses(t, slot, 33, access{slot, 13}, access{5, 0}, access{3, 33})
	}
}

// A slot is read once: another Dcss that has come there meanwhile is none of the frame's.
func TestTheSlotTurnsBetween(t *testing.T) {
	for _, outcome := range []int64{0, 1, 2} {
		want := []int64{57, 66, 57}[outcome]
		for _, turned := range []int64{0, 57, 66, 109, 84, -1} {
			for behind := 1; behind <= 2; behind++ {
				m := withDcss(t, outcome)
				m.Make([]int64{3, 6, 74, 82, 1 - outcome%2})
				f := peek.New(6)
				for i := 1; i <= 3; i++ {
					wantStep(t, m, f, i == 3, "the slot turns")
					if i == behind {
						m.Write(6, turned)
					}
				}
				wantEnd(t, m, f, want, fmt.Sprintf("the slot turns to %d behind the access %d", turned, behind))
			}
		}
	}
}

// The Outcome is what it is at the second access.
func TestTheOutcomeTurnsBetween(t *testing.T) {
	for behind := range 4 {
		for _, x := range []struct{ from, to int64 }{{0, 1}, {0, 2}, {1, 0}, {1, 2}, {2, 1}, {2, 0}} {
			m := withDcss(t, x.from)
			f := peek.New(6)
			for i := range 3 {
				if i == behind {
					m.Write(12, x.to)
				}
				wantStep(t, m, f, i == 2, "the Outcome turns")
			}
			m.Write(12, x.to)
			seen, want := x.from, int64(57)
			if behind <= 1 {
				seen = x.to
			}
			if seen == 1 {
				want = 66
			}
			wantEnd(t, m, f, want, fmt.Sprintf("the Outcome turns from %d to %d behind %d accesses", x.from, x.to, behind))
		}
	}
}

// What is told stands, whatever becomes of the memory.
func TestTheMemoryTurnsBehindTheEnd(t *testing.T) {
	m := withDcss(t, 1)
	f := peek.New(6)
	f.Step(m)
	f.Step(m)
	f.Step(m)
	fill(m, 109)
	m.Make([]int64{1, 2, 3})
	wantEnd(t, m, f, 66, "all cells are turned")
}
