package read_test

import (
	"fmt"
	"testing"

	"ordinate/api"
	"ordinate/mem"
	"ordinate/node"
	"ordinate/plant"
	"ordinate/read"
	"ordinate/ref"
	"ordinate/view"
)

func TestExampleOfASlotWithoutADcss(t *testing.T) {
	m := begun(t, 7)
	f := read.New(6)
	if !f.Step(m) || f.Word() != 57 {
		t.Errorf("13.1: Word is %d", f.Word())
	}
	// Begin made two accesses, the Step one.
	if m.Count() != 3 || m.Odd() != 0 {
		t.Errorf("13.1: Count is %d, Odd %d", m.Count(), m.Odd())
	}
}

func TestExampleOfASlotWithADcss(t *testing.T) {
	m := begun(t, 40)
	if at, ok := m.Make([]int64{3, 6, 57, 66, 0}); at != 8 || !ok || !m.Cas(6, 57, 69) {
		t.Fatalf("7.2: the Dcss is made at %d", at)
	}
	f := read.New(6)
	for i := 1; i <= 9; i++ {
		if got := f.Step(m); got != (i == 9) {
			t.Errorf("13.1: the Step %d is %t", i, got)
		}
	}
	if f.Word() != 66 || m.At(6) != 66 || m.At(12) != 1 {
		t.Errorf("13.1: Word is %d, the slot has %d, the Outcome is %d", f.Word(), m.At(6), m.At(12))
	}
	if m.Count() != 13 || m.Odd() != 0 {
		t.Errorf("13.1: Count is %d, Odd %d", m.Count(), m.Odd())
	}
}

// Every word but a Dcss's is what is told: one access, and nothing is turned.
func TestWordsThatAreNoDcss(t *testing.T) {
	words := []int64{
		ref.Of(ref.Empty, 7), ref.Of(ref.Leaf, 8), ref.Of(ref.Inner, 1), ref.Of(ref.Rebuild, 8),
		ref.Of(ref.Empty, api.MaxCells), ref.Of(ref.Rebuild, api.MaxCells),
		0, 1, 2, 7, 8, 14, 15, -1, -6, 70, 71, 72, 1 << 40, least, greatest,
		// Kinds of a Dcss with addresses that may not be.
		ref.Dcss, 8*(api.MaxCells+1) + ref.Dcss, 1<<32 + ref.Dcss, 1<<35 + 69, -8 + ref.Dcss, -16 + ref.Dcss, -5, -3, -69, least + ref.Dcss, greatest - 2,
	}
	for _, w := range words {
		for outcome := range int64(3) {
			m := hung(t, 0, outcome)
			m.Write(node.Root, w)
			wantRead(t, m, node.Root, 1, nil, w, fmt.Sprint("the word ", w))
		}
	}
}

// Any used cell may be the slot, the first and the last, too.
func TestEachCellAsASlot(t *testing.T) {
	m := begun(t, 400)
	w, ok := plant.Build(m, []api.Pair{{Key: 3, Value: 1}, {Key: 4, Value: 2}, {Key: 7, Value: 70}, {Key: 9, Value: least}, {Key: 10, Value: greatest}})
	if !ok {
		t.Fatal("10.1: Build")
	}
	m.Write(node.Root, w)
	for i, x := range m.Cells() {
		wantRead(t, m, i+1, 1, nil, x, fmt.Sprint("the cell ", i+1))
	}
}

// A guard that is 0 lets the change be, any other one doesn't; nothing but the Outcome and the slot is turned.
func TestGuards(t *testing.T) {
	for _, guard := range []int64{0, 1, 2, 3, -1, 57, 69, 256, 1 << 32, 1<<32 + 1, least, greatest} {
		what := fmt.Sprint("the guard ", guard)
		outcome := becomes(guard)
		word := leads(outcome)
		m := hung(t, guard, 0)
		wantRead(t, m, 6, 1+round, turns{4: {12: outcome}, 8: {6: word}}, word, what)
		// A second one finds no change under way any more.
		wantRead(t, m, 6, 1, nil, word, what+", once more")
	}
}

// An Outcome that is settled stays, whatever the guard is by now.
func TestSettledAhead(t *testing.T) {
	for _, outcome := range []int64{1, 2, 3, -1, 57, 69, 256, 257, 1<<32 + 1, least, least + 1, greatest} {
		for _, guard := range []int64{0, 1, -5} {
			what := fmt.Sprintf("the Outcome %d, the guard %d", outcome, guard)
			word := leads(outcome)
			wantRead(t, hung(t, guard, outcome), 6, 1+round, turns{8: {6: word}}, word, what)
		}
	}
}

// What the words are that a Dcss has isn't asked, as long as they are no Dcss's.
func TestWordsOfADcss(t *testing.T) {
	words := []int64{57, 66, 83, 84, 0, 1, 2, 5, 70, -1, -69, 1 << 40, least, greatest}
	for _, old := range words {
		for _, next := range words {
			for outcome := int64(1); outcome <= 2; outcome++ {
				m := hung(t, 0, outcome)
				m.Write(10, old)
				m.Write(11, next)
				word := next
				if outcome == 2 {
					word = old
				}
				what := fmt.Sprintf("from %d to %d, the Outcome %d", old, next, outcome)
				wantRead(t, m, 6, 1+round, turns{8: {6: word}}, word, what)
			}
		}
	}
}

// row is a memory with so many Dcss in which each, as it comes out, leads to the word of the next one, the last one to 57; the first one's word stands at Root. Told are the turns of a read of it, too.
func row(t *testing.T, many int, guard int64, settled func(i int) int64) (*mem.Mem, turns) {
	t.Helper()
	m := begun(t, 200)
	m.Write(3, guard)
	at := turns{}
	for i := range many {
		first := 8 + 5*i
		behind := ref.Of(ref.Dcss, first+5)
		if i == many-1 {
			behind = 57
		}
		outcome := settled(i)
		comes := outcome
		if outcome == 0 {
			comes = becomes(guard)
			at[4+round*i] = map[int]int64{first + node.Outcome: comes}
		}
		at[8+round*i] = map[int]int64{6: behind}
		words := [2]int64{behind, 401}
		if comes == 1 {
			words = [2]int64{401, behind}
		}
		m.Make([]int64{3, 6, words[0], words[1], outcome})
	}
	m.Make(make([]int64, 5))
	m.Write(6, ref.Of(ref.Dcss, 8))
	return m, at
}

// As long as a Dcss's word stands there, each of them is ended, and the slot is read again.
func TestADcssBehindADcss(t *testing.T) {
	for many := 1; many <= 6; many++ {
		for guard := range int64(2) {
			for shift := range 4 {
				// Some are open, some settled; the shift 3 is that all are open.
				settled := func(i int) int64 {
					if shift == 3 {
						return 0
					}
					return int64((i + shift) % 3)
				}
				m, at := row(t, many, guard, settled)
				what := fmt.Sprintf("%d Dcss in a row, the guard %d, the shift %d", many, guard, shift)
				wantRead(t, m, 6, 1+round*many, at, 57, what)
			}
		}
	}
}

// A Dcss whose word stays in the slot, as that is not its Place or it leads to its own word, is helped again and again, till others take its word out.
func TestADcssThatStays(t *testing.T) {
	for _, x := range []struct {
		what string
		lay  func(m *mem.Mem)
		at   turns
	}{
		{"its Place is another cell", func(m *mem.Mem) { m.Write(9, 7) }, turns{4: {12: 1}}},
		{"its Place is another cell with its word", func(m *mem.Mem) { m.Write(9, 7); m.Write(7, 69) }, turns{4: {12: 1}, 8: {7: 66}}},
		{"its New is its own word", func(m *mem.Mem) { m.Write(11, 69) }, turns{4: {12: 1}}},
		{"its Old is its own word, and it is shut", func(m *mem.Mem) { m.Write(10, 69); m.Write(3, 1) }, turns{4: {12: 2}}},
	} {
		for behind := range round + 1 {
			m := hung(t, 0, 0)
			x.lay(m)
			f := read.New(6)
			ahead := 5*round + behind
			wantSteps(t, m, f, 1, ahead, 0, x.at, x.what)
			m.Write(6, 82)
			// It looks at the slot anew at the accesses 1, 9, 17 ..
			end := 5*round + 1
			if behind > 0 {
				end += round
			}
			wantSteps(t, m, f, ahead+1, end, end, nil, x.what+", and then was taken out")
			wantEnd(t, m, f, 82, x.what)
		}
	}
}

// A Dcss may lie anywhere, its guard and its slot may be any cells, the first and the last used ones, too.
func TestWhereItAllIs(t *testing.T) {
	for _, x := range []struct{ at, guard, slot int }{
		{8, 3, 6}, {8, 1, 7}, {8, 7, 1}, {8, 30, 13}, {8, 13, 30}, {1, 6, 7}, {1, 30, 6}, {26, 25, 1}, {26, 1, 25}, {26, 20, 20},
	} {
		for _, guard := range []int64{0, 1} {
			m := fresh(t, 40)
			m.Make(make([]int64, 30))
			m.Write(x.guard, guard)
			for i, c := range node.DcssWords(x.guard, x.slot, 57, 66) {
				m.Write(x.at+i, c)
			}
			m.Write(x.slot, ref.Of(ref.Dcss, x.at))
			outcome := becomes(guard)
			if x.slot == x.guard {
				outcome = 2
			}
			word := leads(outcome)
			what := fmt.Sprintf("the Dcss at %d, the guard at %d is %d, the slot at %d", x.at, x.guard, guard, x.slot)
			wantRead(t, m, x.slot, 1+round, turns{4: {x.at + 4: outcome}, 8: {x.slot: word}}, word, what)
		}
	}
}

// The slot is a cell of its own Dcss.
func TestASlotOfItsOwnDcss(t *testing.T) {
	for _, x := range []struct {
		place   int
		outcome int64
		word    int64
	}{
		{node.Old, 1, 66}, {node.New, 2, 57}, {node.Outcome, 69, 57},
	} {
		m := hung(t, 0, x.outcome)
		slot := 8 + x.place
		m.Write(9, int64(slot))
		m.Write(slot, 69)
		what := fmt.Sprintf("the slot is the place %d, the Outcome %d", x.place, x.outcome)
		wantRead(t, m, slot, 1+round, turns{8: {slot: x.word}}, x.word, what)
	}
}

func TestTheGreatestMemory(t *testing.T) {
	m := begun(t, api.MaxCells)
	m.Make(make([]int64, api.MaxCells-12))
	at, _ := m.Make([]int64{api.MaxCells - 5, 6, 57, 66, 0})
	if at != api.MaxCells-4 {
		t.Fatalf("7.2: the Dcss is made at %d", at)
	}
	m.Write(6, ref.Of(ref.Dcss, at))
	wantRead(t, m, 6, 1+round, turns{4: {api.MaxCells: 1}, 8: {6: 66}}, 66, "the Dcss has the last cells")
	m.Write(api.MaxCells, -5)
	wantRead(t, m, api.MaxCells, 1, nil, -5, "the slot is the last cell")
}

// In a tree: the slot of an Inner there, guarded by that Inner's Shut; the tree's other slots are as they were.
func TestInATree(t *testing.T) {
	for shut := range int64(2) {
		m := begun(t, 400)
		w, _ := plant.Build(m, []api.Pair{{Key: 1, Value: 10}, {Key: 2, Value: 20}, {Key: 3, Value: 30}})
		m.Write(6, w)
		n := ref.At(w)
		slot := node.ChildAt(n, 2, 1)
		leaf, _ := m.Make(node.LeafWords(3, 31))
		old, next := m.At(slot), ref.Of(ref.Leaf, leaf)
		at, _ := m.Make(node.DcssWords(n+node.Shut, slot, old, next))
		m.Write(slot, ref.Of(ref.Dcss, at))
		m.Write(n+node.Shut, shut)
		word := []int64{next, old}[shut]
		spots := view.Spots(m)
		for _, spot := range spots {
			if spot.Slot != slot {
				wantRead(t, m, spot.Slot, 1, nil, spot.Word, "a slot of the tree")
			}
		}
		wantRead(t, m, slot, 1+round, turns{4: {at + 4: 1 + shut}, 8: {slot: word}}, word, fmt.Sprint("in a tree, Shut ", shut))
		for i, spot := range view.Spots(m) {
			if spot.Slot == slot && spot.Word != word || spot.Slot != slot && spot != spots[i] {
				t.Errorf("13.1: the slot %d stands for %d: Shut %d", spot.Slot, spot.Word, shut)
			}
		}
	}
}
