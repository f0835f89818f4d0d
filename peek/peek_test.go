package peek_test

import (
	"fmt"
	"testing"

	"ordinate/api"
	"ordinate/node"
	"ordinate/peek"
	"ordinate/plant"
	"ordinate/ref"
	"ordinate/view"
)

func TestExamples(t *testing.T) {
	m := begun(t, 7)
	f := peek.New(6)
	if f.Done() || f.Word() != 0 || !f.Step(m) || !f.Done() || f.Word() != 57 || !f.Step(m) {
		t.Errorf("11.1: Done, Word at the end: %t, %d", f.Done(), f.Word())
	}
	// Begin made two accesses, the first Step one, the second none.
	if m.Count() != 3 {
		t.Errorf("11.1: Count is %d", m.Count())
	}
}

// Every word but a Dcss's stands for itself: one access.
func TestWordsThatAreNoDcss(t *testing.T) {
	words := []int64{
		ref.Of(ref.Empty, 7), ref.Of(ref.Leaf, 8), ref.Of(ref.Inner, 1), ref.Of(ref.Rebuild, 8),
		ref.Of(ref.Empty, api.MaxCells), ref.Of(ref.Rebuild, api.MaxCells),
		0, 1, 2, 7, 8, 14, 15, -1, -6, 70, 71, 72, 1 << 40, least, greatest,
		// Kinds of a Dcss with addresses that may not be.
		ref.Dcss, 8*(api.MaxCells+1) + ref.Dcss, 1<<32 + ref.Dcss, 1<<35 + 69, -8 + ref.Dcss, -16 + ref.Dcss, -5, -3, -69, least + ref.Dcss, greatest - 2,
	}
	for _, w := range words {
		m := begun(t, 40)
		m.Make([]int64{4, 40, 0, 0, 0, 0, 0, 0})
		m.Write(node.Root, w)
		wantPeek(t, m, node.Root, 1, w, fmt.Sprint("the word ", w))
	}
}

// Any used cell may be the slot, the first and the last, too.
func TestEachCellAsASlot(t *testing.T) {
	m := begun(t, 400)
	w, ok := plant.Build(m, []api.Pair{{Key: 3, Value: 1}, {Key: 4, Value: 2}, {Key: 7, Value: 70}, {Key: 9, Value: least}, {Key: 10, Value: greatest}})
	if !ok {
		t.Fatal("10.1: Build")
	}
	m.Write(node.Root, w)
	for i, x := range m.Cells() {
		wantPeek(t, m, i+1, 1, x, fmt.Sprint("the cell ", i+1))
	}
}

func TestADcss(t *testing.T) {
	outcomes := map[int64]int64{0: 57, 1: 66, 2: 57, 3: 57, -1: 57, 257: 57, 1<<32 + 1: 57, least + 1: 57, least: 57, greatest: 57}
	for outcome, want := range outcomes {
		m := withDcss(t, outcome)
		wantPeek(t, m, node.Root, 3, want, fmt.Sprint("the outcome ", outcome))
	}
}

// Neither where a Dcss belongs nor what its words are is asked; one that stands behind it is not looked into.
func TestWordsOfADcss(t *testing.T) {
	words := []int64{0, 57, 66, 83, 84, 69, ref.Of(ref.Dcss, 13), ref.Of(ref.Dcss, api.MaxCells), -1, 70, least, greatest}
	for _, old := range words {
		for _, next := range words {
			what := fmt.Sprintf("from %d to %d", old, next)
			m := begun(t, 40)
			m.Make([]int64{-1, 99, old, next, 0})
			m.Make([]int64{3, 6, 1, 2, 1})
			for _, slot := range []int{1, 5, 6, 7} {
				m.Write(8+node.Outcome, 0)
				m.Write(slot, 69)
				wantPeek(t, m, slot, 3, old, what)
				m.Write(8+node.Outcome, 1)
				wantPeek(t, m, slot, 3, next, what)
				m.Write(8+node.Outcome, 2)
				wantPeek(t, m, slot, 3, old, what)
				m.Write(slot, 0)
			}
		}
	}
}

// A Dcss's cells may be any: the first and the last used ones, the slot's own.
func TestWhereADcssLies(t *testing.T) {
	m := begun(t, 7)
	m.Write(3, 9)
	m.Write(4, 10)
	for _, x := range []struct{ at, outcome, want int64 }{{1, 0, 9}, {1, 1, 10}, {1, 2, 9}} {
		m.Write(5, x.outcome)
		m.Write(node.Root, 8*x.at+5)
		wantPeek(t, m, node.Root, 3, x.want, fmt.Sprint("a Dcss in Base, ", x.outcome))
	}
	// The Dcss at 3 has the slot as its New, the cell ahead of it as its Old, the last used cell as its Outcome.
	m.Write(5, 77)
	for outcome, want := range []int64{77, 29, 77} {
		m.Write(7, int64(outcome))
		m.Write(node.Root, 29)
		wantPeek(t, m, node.Root, 3, want, fmt.Sprint("the last used cell is the Outcome, ", outcome))
	}
	// The slot is a cell of its own Dcss: as its Outcome it is a word that is not 1.
	for place, want := range []int64{node.Guard: 66, node.Place: 66, node.Old: 66, node.New: 69, node.Outcome: 57} {
		own := withDcss(t, 1)
		own.Write(8+place, 69)
		wantPeek(t, own, 8+place, 3, want, fmt.Sprint("the slot is the place ", place))
	}
}

func TestADcssAtTheEndOfTheGreatestMemory(t *testing.T) {
	m := begun(t, api.MaxCells)
	m.Make(make([]int64, api.MaxCells-12))
	at, _ := m.Make([]int64{3, 6, 57, 66, 1})
	if at != api.MaxCells-4 {
		t.Fatalf("7.2: the Dcss is made at %d", at)
	}
	f := peek.New(node.Root)
	m.Write(node.Root, ref.Of(ref.Dcss, at))
	if f.Step(m) || f.Step(m) || !f.Step(m) || f.Word() != 66 || m.Odd() != 0 {
		t.Errorf("11.1: Word is %d, %d accesses are odd", f.Word(), m.Odd())
	}
	m.Write(api.MaxCells, -5)
	last := peek.New(api.MaxCells)
	if !last.Step(m) || last.Word() != -5 || m.Odd() != 0 {
		t.Errorf("11.1: of the last cell Word is %d", last.Word())
	}
}

// told is what a slot's word comes to, and by how many accesses, by the words of the chapter alone.
func told(cells []int64, slot int) (int64, int, bool) {
	w := cells[slot-1]
	at := w / 8
	if w < 8 || w%8 != 5 || at > api.MaxCells {
		return w, 1, true
	}
	if at+4 > int64(len(cells)) {
		return 0, 0, false
	}
	record := cells[at-1:][:5]
	if record[4] == 1 {
		return record[3], 3, true
	}
	return record[2], 3, true
}

// Whatever words stand there: memories of words that are often a Dcss's.
func TestAnyMemory(t *testing.T) {
	seen := map[int]int{}
	x := uint64(11)
	next := func(n uint64) int64 {
		x = x*6364136223846793005 + 1442695040888963407
		return int64((x >> 33) % n)
	}
	for range 300 {
		m := fresh(t, 30)
		for range 30 {
			words := []int64{8*(1+next(28)) + 5, next(3), next(300), -next(300)}
			m.Make([]int64{words[next(4)]})
		}
		for slot := 1; slot <= 30; slot++ {
			word, accesses, ok := told(m.Cells(), slot)
			if !ok {
				continue
			}
			seen[accesses]++
			wantPeek(t, m, slot, accesses, word, fmt.Sprintf("the slot %d of %v", slot, m.Cells()))
			if logic := view.Logic(m, slot); logic != word {
				t.Errorf("9.1: Logic of %d is %d, not %d", slot, logic, word)
			}
		}
	}
	if seen[1] < 1000 || seen[3] < 1000 {
		t.Errorf("too few of a kind: %v", seen)
	}
}
