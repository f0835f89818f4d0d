package help_test

import (
	"fmt"
	"testing"

	"ordinate/api"
	"ordinate/help"
	"ordinate/node"
	"ordinate/plant"
	"ordinate/ref"
	"ordinate/view"
)

func TestExample(t *testing.T) {
	m := begun(t, 40)
	if at, ok := m.Make([]int64{3, 6, 57, 66, 0}); at != 8 || !ok {
		t.Fatalf("7.2: the Dcss is made at %d", at)
	}
	if !m.Cas(6, 57, 69) {
		t.Fatal("7.2: Cas")
	}
	f := help.New(8)
	for i := 1; i <= 7; i++ {
		if got := f.Step(m); got != (i == 7) {
			t.Errorf("12.1: the Step %d is %t", i, got)
		}
	}
	if m.Read(6) != 66 || m.Read(12) != 1 {
		t.Errorf("12.1: the slot has %d, the Outcome is %d", m.At(6), m.At(12))
	}
	// Begin made two accesses, Make and Cas one each, the Steps seven, the two Reads behind them one each.
	if m.Count() != 13 || m.Odd() != 0 {
		t.Errorf("12.1: Count is %d, Odd %d", m.Count(), m.Odd())
	}
}

// A guard that is 0 lets the change be, any other one doesn't; nothing but the Outcome and the slot is turned.
func TestGuards(t *testing.T) {
	for _, guard := range []int64{0, 1, 2, 3, -1, 57, 69, 256, 1 << 32, 1<<32 + 1, least, greatest} {
		what := fmt.Sprint("the guard ", guard)
		outcome, word := int64(2), int64(57)
		if guard == 0 {
			outcome, word = 1, 66
		}
		m := hung(t, guard, 0)
		wantHelp(t, m, 8, map[int]int64{12: outcome}, map[int]int64{6: word}, what)
		// A second help finds all of it done, and turns nothing.
		wantHelp(t, m, 8, nil, nil, what+", once more")
	}
}

// An Outcome that is settled stays, whatever the guard is by now; of such as may not be none is 1.
func TestSettledAhead(t *testing.T) {
	for _, outcome := range []int64{1, 2, 3, -1, 57, 69, 256, 257, 1 << 32, 1<<32 + 1, least, least + 1, greatest} {
		for _, guard := range []int64{0, 1, -5} {
			word := int64(57)
			if outcome == 1 {
				word = 66
			}
			what := fmt.Sprintf("the Outcome %d, the guard %d", outcome, guard)
			wantHelp(t, hung(t, guard, outcome), 8, nil, map[int]int64{6: word}, what)
		}
	}
}

// A slot with another word than that very Dcss's keeps it: one that has gone on, one in which another Dcss's word stands.
func TestASlotThatHasGoneOn(t *testing.T) {
	words := []int64{57, 66, 74, 82, 0, 109, 61, 77, 67, 68, 65, 70, 8, 69 + 8*api.MaxCells, 69 + 1<<32, -69, 1, 2, -1, least, greatest}
	for _, w := range words {
		for _, outcome := range []int64{0, 1, 2} {
			for _, guard := range []int64{0, 1} {
				m := hung(t, guard, outcome)
				m.Write(6, w)
				var third map[int]int64
				if outcome == 0 {
					third = map[int]int64{12: becomes(guard)}
				}
				wantHelp(t, m, 8, third, nil, fmt.Sprintf("the slot has %d, the Outcome %d, the guard %d", w, outcome, guard))
			}
		}
	}
}

// What the words are that a Dcss has isn't asked.
func TestWordsOfADcss(t *testing.T) {
	words := []int64{57, 66, 83, 84, 0, 1, 2, 70, 109, 69, -1, 1 << 40, least, greatest}
	for _, old := range words {
		for _, next := range words {
			for outcome := range int64(3) {
				m := hung(t, 0, outcome)
				m.Write(10, old)
				m.Write(11, next)
				var third map[int]int64
				if outcome == 0 {
					third = map[int]int64{12: 1}
				}
				word := next
				if outcome == 2 {
					word = old
				}
				what := fmt.Sprintf("from %d to %d, the Outcome %d", old, next, outcome)
				wantHelp(t, m, 8, third, map[int]int64{6: word}, what)
			}
		}
	}
}

// A Dcss may lie anywhere, its guard and its slot may be any cells, the first and the last used ones, too.
func TestWhereItAllIs(t *testing.T) {
	for _, x := range []struct{ at, guard, slot int }{
		{8, 3, 6}, {8, 1, 7}, {8, 7, 1}, {8, 30, 13}, {8, 13, 30}, {1, 6, 7}, {1, 30, 6}, {26, 25, 1}, {26, 1, 25}, {26, 20, 20},
	} {
		for _, guard := range []int64{0, 1} {
			m := fresh(t, 40)
			m.Make(make([]int64, 30))
			word := ref.Of(ref.Dcss, x.at)
			m.Write(x.guard, guard)
			for i, c := range node.DcssWords(x.guard, x.slot, 57, 66) {
				m.Write(x.at+i, c)
			}
			m.Write(x.slot, word)
			outcome := becomes(guard)
			if x.slot == x.guard {
				outcome = 2
			}
			what := fmt.Sprintf("the Dcss at %d, the guard at %d is %d, the slot at %d", x.at, x.guard, guard, x.slot)
			wantHelp(t, m, x.at, map[int]int64{x.at + 4: outcome}, map[int]int64{x.slot: []int64{1: 66, 2: 57}[outcome]}, what)
		}
	}
}

// The guard, or the slot, is a cell of the very Dcss: each cell holds what it holds when its turn comes.
func TestCellsOfItsOwn(t *testing.T) {
	for place, want := range []struct{ outcome, slot int64 }{
		node.Guard: {2, 57}, node.Place: {2, 57}, node.Old: {2, 57}, node.New: {2, 57}, node.Outcome: {1, 66},
	} {
		m := hung(t, 0, 0)
		m.Write(8, int64(8+place))
		wantHelp(t, m, 8, map[int]int64{12: want.outcome}, map[int]int64{6: want.slot}, fmt.Sprint("the guard is its place ", place))
	}
	// Where the slot is a cell of it, that one has its word.
	for _, x := range []struct {
		place   int
		outcome int64
		turns   map[int]int64
	}{
		{node.Old, 1, map[int]int64{10: 66}}, {node.Old, 2, nil},
		{node.New, 1, nil}, {node.New, 2, map[int]int64{11: 57}},
		{node.Outcome, 69, map[int]int64{12: 57}},
	} {
		m := hung(t, 0, x.outcome)
		m.Write(9, int64(8+x.place))
		m.Write(8+x.place, 69)
		wantHelp(t, m, 8, nil, x.turns, fmt.Sprintf("the slot is its place %d, the Outcome %d", x.place, x.outcome))
	}
	m := hung(t, 0, 1)
	m.Write(9, 9)
	wantHelp(t, m, 8, nil, nil, "its Place is that of its Place")
}

func TestADcssAtTheEndOfTheGreatestMemory(t *testing.T) {
	m := begun(t, api.MaxCells)
	m.Make(make([]int64, api.MaxCells-12))
	at, _ := m.Make([]int64{api.MaxCells - 5, 6, 57, 66, 0})
	if at != api.MaxCells-4 {
		t.Fatalf("7.2: the Dcss is made at %d", at)
	}
	m.Write(6, ref.Of(ref.Dcss, at))
	wantHelp(t, m, at, map[int]int64{api.MaxCells: 1}, map[int]int64{6: 66}, "the Dcss has the last cells")
}

// In a tree: the slot of an Inner there, guarded by that Inner's Shut; the tree's other slots are as they were.
func TestInATree(t *testing.T) {
	for shut := range int64(2) {
		m := begun(t, 400)
		w, _ := plant.Build(m, []api.Pair{{Key: 1, Value: 10}, {Key: 2, Value: 20}, {Key: 3, Value: 30}})
		m.Write(6, w)
		n := ref.At(w)
		slot := node.ChildAt(n, 2, 1)
		leaf, _ := m.Make(node.LeafWords(3, 31))
		old, next := m.At(slot), ref.Of(ref.Leaf, leaf)
		at, _ := m.Make(node.DcssWords(n+node.Shut, slot, old, next))
		m.Write(slot, ref.Of(ref.Dcss, at))
		m.Write(n+node.Shut, shut)
		word := []int64{next, old}[shut]
		spots := view.Spots(m)
		wantHelp(t, m, at, map[int]int64{at + 4: 1 + shut}, map[int]int64{slot: word}, fmt.Sprint("in a tree, Shut ", shut))
		for i, spot := range view.Spots(m) {
			if spot.Slot == slot && spot.Word != word || spot.Slot != slot && spot != spots[i] {
				t.Errorf("12.1: the slot %d stands for %d: Shut %d", spot.Slot, spot.Word, shut)
			}
		}
	}
}
