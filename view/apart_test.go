package view_test

import (
	"reflect"
	"slices"
	"testing"

	"ordinate/api"
	"ordinate/mem"
	"ordinate/node"
	"ordinate/view"
)

// memories are some of each sort.
func memories(t *testing.T) []*mem.Mem {
	t.Helper()
	whole, w := uneven(t)
	under, _ := uneven(t)
	under.rebuild(under.slot(w[0], 0))
	under.dcss(node.Root, 57, 0)
	unsound, _ := uneven(t)
	unsound.cell(w[1], node.Shut, 2)
	back, _ := uneven(t)
	back.Write(back.slot(w[3], 0), w[0])
	// Accesses that were odd or refused are counted there.
	odd, _ := uneven(t)
	odd.Read(0)
	odd.Write(5000, 1)
	odd.Make(nil)
	return []*mem.Mem{fresh(t, 1), fresh(t, 90), begun(t, 7).Mem, whole.Mem, under.Mem, unsound.Mem, back.Mem, odd.Mem}
}

func calls() map[string]func(m *mem.Mem) {
	words := []int64{0, 57, 66, 99, -1, least, greatest}
	return map[string]func(m *mem.Mem){
		"Logic": func(m *mem.Mem) {
			for slot := -2; slot < m.Used()+5; slot++ {
				view.Logic(m, slot)
			}
		},
		"Sound":   func(m *mem.Mem) { view.Sound(m) },
		"Content": func(m *mem.Mem) { forEach(m, words, func(w int64) { view.Content(m, w) }) },
		"Depth":   func(m *mem.Mem) { forEach(m, words, func(w int64) { view.Depth(m, w) }) },
		"Ideal":   func(m *mem.Mem) { forEach(m, words, func(w int64) { view.Ideal(m, w) }) },
		"Spots":   func(m *mem.Mem) { view.Spots(m) },
		"Calm":    func(m *mem.Mem) { view.Calm(m) },
		"Leaves": func(m *mem.Mem) {
			for range view.Leaves(m) {
			}
			for range view.Leaves(m) {
				break
			}
		},
	}
}

// forEach hands over the words, and what stands in the memory's cells.
func forEach(m *mem.Mem, words []int64, call func(int64)) {
	for _, w := range slices.Concat(words, m.Cells()) {
		call(w)
	}
}

func TestNothingIsAnAccess(t *testing.T) {
	for i, m := range memories(t) {
		ahead, cells := countsOf(m), m.Cells()
		for name, call := range calls() {
			call(m)
			if got := countsOf(m); got != ahead {
				t.Errorf("9: behind %s of the memory %d Count, Odd, Refused, Used, Size are %v, not %v", name, i, got, ahead)
			}
			if got := m.Cells(); !slices.Equal(got, cells) {
				t.Errorf("9: behind %s of the memory %d its cells are %v, not %v", name, i, got, cells)
			}
		}
	}
}

func TestListsAreNewMemory(t *testing.T) {
	for _, m := range memories(t) {
		w := view.Logic(m, node.Root)
		content, spots := view.Content(m, w), view.Spots(m)
		wantContent, wantSpots := slices.Clone(content), slices.Clone(spots)
		for i := range content[:cap(content)] {
			content[:cap(content)][i] = api.Pair{Key: -1, Value: -1}
		}
		for i := range spots[:cap(spots)] {
			spots[:cap(spots)][i] = api.Spot{Slot: -1, Word: -1}
		}
		_, _ = append(content, api.Pair{}), append(spots, api.Spot{})
		if got := view.Content(m, w); !slices.Equal(got, wantContent) {
			t.Errorf("0.3: Content is %v, not %v", got, wantContent)
		}
		if got := view.Spots(m); !slices.Equal(got, wantSpots) {
			t.Errorf("0.3: Spots is %v, not %v", got, wantSpots)
		}
		if got := collect(m); !slices.Equal(got, wantContent) {
			t.Errorf("0.3: Leaves are %v, not %v", got, wantContent)
		}
	}
}

// 0.4: what is told hangs on what the memory holds, not on what was asked before, nor on another memory.
func TestNothingIsKept(t *testing.T) {
	var want []told
	for _, m := range memories(t) {
		want = append(want, tellAll(m))
	}
	for range 3 {
		for i, m := range memories(t) {
			for _, other := range []*mem.Mem{m, m.Clone()} {
				for _, call := range calls() {
					call(other)
				}
				if got := tellAll(other); !reflect.DeepEqual(got, want[i]) {
					t.Errorf("0.4: of the memory %d %v is told, not %v", i, got, want[i])
				}
			}
		}
	}
}

// What is written is seen by the next call.
func TestWhatIsWrittenIsSeen(t *testing.T) {
	b := idealOver(t, rising(2)...)
	w := b.At(node.Root)
	leaves := view.Leaves(b.Mem)
	wantIdealBelow(t, b, w, rising(2))
	b.Write(b.slot(w, 0), b.empty())
	wantBelow(t, b.Mem, w, below{pairs(2), 1, false})
	wantLeaves(t, b.Mem, pairs(2)...)
	b.root(57)
	wantNothing(t, b.Mem, w)
	wantSpots(t, b.Mem, api.Spot{Slot: 6, Word: 57})
	for k := range leaves {
		t.Errorf("9.4: a loop over Leaves that begins when there is none goes through %d", k)
	}
}

func TestNoMemory(t *testing.T) {
	if view.Sound(nil) || view.Calm(nil) || len(view.Spots(nil)) != 0 {
		t.Errorf("9: there is something in no memory")
	}
	for _, w := range []int64{0, 57, 66} {
		wantNothing(t, nil, w)
	}
}
