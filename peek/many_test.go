package peek_test

import (
	"fmt"
	"testing"

	"ordinate/mem"
	"ordinate/node"
	"ordinate/peek"
	"ordinate/ref"
	"ordinate/view"
)

// actor is somebody with accesses of their own, one a step; whether there are no more is told.
type actor interface{ step(m *mem.Mem) bool }

// watcher is a peek, how many accesses it made, and the moments of the first and the last of them.
type watcher struct {
	f           *peek.Frame
	accesses    int
	first, last int
}

func (w *watcher) step(m *mem.Mem) bool { return w.f.Step(m) }

// changer makes a guarded change of Root, access by access, as chapter 14 says.
type changer struct {
	next     int
	old, new int64
	at       int
	g, o     int64
}

func (c *changer) step(m *mem.Mem) bool {
	word := ref.Of(ref.Dcss, c.at)
	c.next++
	switch c.next {
	case 1:
		c.at, _ = m.Make([]int64{node.Base + node.Shut, node.Root, c.old, c.new, 0})
	case 2:
		return !m.Cas(node.Root, c.old, word)
	case 3:
		c.g = m.Read(node.Base + node.Shut)
	case 4:
		m.Cas(c.at+node.Outcome, 0, outcomeOf(c.g))
	case 5:
		c.o = m.Read(c.at + node.Outcome)
	case 6:
		m.Cas(node.Root, word, c.becomes())
	}
	return c.next >= 6
}

func (c *changer) becomes() int64 {
	if c.o == 1 {
		return c.new
	}
	return c.old
}

func outcomeOf(guard int64) int64 {
	if guard == 0 {
		return 1
	}
	return 2
}

// helper ends a changer's change, as chapter 12 says, as soon as it sees one under way; till then it looks at the slot, some times.
type helper struct {
	of         *changer
	next       int
	p, g, o, s int64
	at         int
	becomes    int64
	looks      int
}

func (h *helper) step(m *mem.Mem) bool {
	if h.at == 0 {
		w := m.Read(node.Root)
		h.looks++
		if ref.Kind(w) == ref.Dcss && ref.At(w) == h.of.at {
			h.at = h.of.at
		}
		return h.at == 0 && h.looks == 9
	}
	h.next++
	switch h.next {
	case 1:
		h.p = m.Read(h.at + node.Guard)
	case 2:
		h.g = m.Read(int(h.p))
	case 3:
		m.Cas(h.at+node.Outcome, 0, outcomeOf(h.g))
	case 4:
		h.o = m.Read(h.at + node.Outcome)
	case 5:
		h.s = m.Read(h.at + node.Place)
	case 6:
		place := node.Old
		if h.o == 1 {
			place = node.New
		}
		h.becomes = m.Read(h.at + place)
	case 7:
		m.Cas(int(h.s), ref.Of(ref.Dcss, h.at), h.becomes)
	}
	return h.next == 7
}

// shutter shuts the node that has the slot.
type shutter struct{}

func (shutter) step(m *mem.Mem) bool {
	m.Write(node.Base+node.Shut, 1)
	return true
}

// stage is all that are there, over one memory; logic is what Root stood for ahead of each access.
type stage struct {
	t      *testing.T
	m      *mem.Mem
	actors []actor
	over   []bool
	logic  []int64
	script []int
}

func newStage(t *testing.T, actors []actor) *stage {
	return &stage{t: t, m: begun(t, 600), actors: actors, over: make([]bool, len(actors))}
}

func newWatcher() *watcher { return &watcher{f: peek.New(node.Root)} }

// pick lets one of them make one access.
func (s *stage) pick(i int) {
	moment := len(s.logic)
	s.logic = append(s.logic, view.Logic(s.m, node.Root))
	s.script = append(s.script, i)
	ahead, cells := s.m.Count(), s.m.Cells()
	s.over[i] = s.actors[i].step(s.m)
	if s.m.Count() != ahead+1 {
		s.t.Errorf("0.5: %d accesses of one Step: %v", s.m.Count()-ahead, s.script)
	}
	w, ok := s.actors[i].(*watcher)
	if !ok {
		return
	}
	if w.accesses == 0 {
		w.first = moment
	}
	w.accesses++
	w.last = moment
	if s.over[i] != w.f.Done() || w.accesses > 3 {
		s.t.Fatalf("11.1: Step is %t, Done %t behind %d accesses: %v", s.over[i], w.f.Done(), w.accesses, s.script)
	}
	for j, x := range s.m.Cells() {
		if cells[j] != x {
			s.t.Errorf("11.2: a Step turned the cell %d: %v", j+1, s.script)
		}
	}
	s.wantMoment(w)
}

// wantMoment: what a watcher tells stood there at a moment while it was under way.
func (s *stage) wantMoment(w *watcher) {
	if !w.f.Done() {
		if w.f.Word() != 0 {
			s.t.Errorf("0.5: Word is %d ahead of the end: %v", w.f.Word(), s.script)
		}
		return
	}
	for _, x := range s.logic[w.first : w.last+1] {
		if x == w.f.Word() {
			return
		}
	}
	s.t.Errorf("11.2: Word is %d, of %v: %v", w.f.Word(), s.logic[w.first:w.last+1], s.script)
}

// eachOrder runs all orders in which the actors that cast tells may be picked, to the end of all of them, and hands each stage over.
func eachOrder(t *testing.T, cast func() []actor, see func(s *stage)) int {
	runs := 0
	var from func(script []int)
	from = func(script []int) {
		s := newStage(t, cast())
		for _, i := range script {
			s.pick(i)
		}
		whole := true
		for i := range s.actors {
			if !s.over[i] {
				whole = false
				from(append(script[:len(script):len(script)], i))
			}
		}
		if whole {
			runs++
			see(s)
		}
	}
	from(nil)
	return runs
}

// wantTold: over all orders the first watcher told each of these words, and no other one.
func wantTold(t *testing.T, cast func() []actor, words ...int64) {
	t.Helper()
	seen := map[int64]int{}
	runs := eachOrder(t, cast, func(s *stage) {
		seen[s.actors[0].(*watcher).f.Word()]++
	})
	for _, w := range words {
		if seen[w] == 0 {
			t.Errorf("11.2: in none of %d orders %d is told: %v", runs, w, seen)
		}
		delete(seen, w)
	}
	if len(seen) != 0 {
		t.Errorf("11.2: in some orders what never stood there is told: %v", seen)
	}
}

func TestAChangeUnderWay(t *testing.T) {
	wantTold(t, func() []actor {
		return []actor{newWatcher(), &changer{old: 57, new: 66}}
	}, 57, 66)
	// One that finds another word turns nothing.
	wantTold(t, func() []actor {
		return []actor{newWatcher(), &changer{old: 66, new: 74}}
	}, 57)
}

func TestAChangeThatMayBeShut(t *testing.T) {
	wantTold(t, func() []actor {
		return []actor{newWatcher(), &changer{old: 57, new: 66}, shutter{}}
	}, 57, 66)
}

// series makes changes one behind the other.
type series struct{ left []*changer }

func (s *series) step(m *mem.Mem) bool {
	if s.left[0].step(m) {
		s.left = s.left[1:]
	}
	return len(s.left) == 0
}

func TestChangesInARow(t *testing.T) {
	wantTold(t, func() []actor {
		return []actor{newWatcher(), &series{[]*changer{{old: 57, new: 66}, {old: 66, new: 74}, {old: 74, new: 57}}}}
	}, 57, 66, 74)
}

// Two peeks over one slot: the one that begins behind the other's end tells nothing that was gone by then (the words of the row come but once each).
func TestTwoPeeks(t *testing.T) {
	rank := map[int64]int{57: 0, 66: 1}
	runs := eachOrder(t, func() []actor {
		return []actor{newWatcher(), newWatcher(), &changer{old: 57, new: 66}}
	}, func(s *stage) {
		one, other := s.actors[0].(*watcher), s.actors[1].(*watcher)
		if one.first > other.first {
			one, other = other, one
		}
		if one.last < other.first && rank[one.f.Word()] > rank[other.f.Word()] {
			t.Errorf("11.2: %d was told, and then %d: %v", one.f.Word(), other.f.Word(), s.script)
		}
	})
	if runs < 1000 {
		t.Errorf("there were %d orders", runs)
	}
}

// crowd is many peeks over one slot, changers of the words in turn, those that help them, and one that shuts.
func crowd(round int) []actor {
	var all []actor
	for range 6 {
		all = append(all, newWatcher())
	}
	for i := range int64(5) {
		c := &changer{old: 57 + 8*i, new: 65 + 8*i}
		all = append(all, c, &helper{of: c})
	}
	for range 3 {
		all = append(all, &changer{old: 57, new: 401})
	}
	if round%4 == 0 {
		all = append(all, shutter{})
	}
	return all
}

func TestManyInWhateverOrder(t *testing.T) {
	x := uint64(5)
	next := func(n int) int {
		x = x*6364136223846793005 + 1442695040888963407
		return int((x >> 33) % uint64(n))
	}
	told := map[int64]int{}
	for round := range 3000 {
		s := newStage(t, crowd(round))
		// Some stop for good: they are not picked any more from the beginning, or from somewhere on.
		for picks := range 40 + next(120) {
			i := next(len(s.actors))
			for picks%3 != 0 && i < 6 {
				i = next(len(s.actors))
			}
			if !s.over[i] {
				s.pick(i)
			}
		}
		for i, a := range s.actors[:6] {
			for !s.over[i] {
				s.pick(i)
			}
			told[a.(*watcher).f.Word()]++
		}
		if s.m.Odd() != 0 {
			t.Fatalf("7.2: an access was odd: %v", s.script)
		}
	}
	if len(told) < 4 {
		t.Errorf("too few words were told: %v", told)
	}
}

func TestFramesOfOneSlotDoNotSeeEachOther(t *testing.T) {
	m := withDcss(t, 0)
	one, other := peek.New(6), peek.New(6)
	wantStep(t, m, one, false, "one")
	wantStep(t, m, one, false, "one")
	m.Write(12, 1)
	wantStep(t, m, other, false, "other")
	wantAhead(t, m, one, "one")
	wantStep(t, m, other, false, "other")
	wantStep(t, m, one, true, "one")
	wantAhead(t, m, other, "other")
	wantStep(t, m, other, true, "other")
	wantEnd(t, m, one, 57, "one")
	wantEnd(t, m, other, 66, "other")
}

// A copy goes on from where the other one stops, by itself.
func TestClone(t *testing.T) {
	for behind := range 4 {
		m := withDcss(t, 0)
		f := peek.New(6)
		for i := range behind {
			wantStep(t, m, f, i == 2, "the first one")
		}
		ahead := countsOf(m)
		c := f.Clone()
		if got := countsOf(m); got != ahead {
			t.Errorf("0.5: Clone made accesses: %v, not %v", got, ahead)
		}
		for i := behind; i < 3; i++ {
			wantAhead(t, m, c, "the copy")
			wantStep(t, m, c, i == 2, "the copy")
		}
		wantEnd(t, m, c, 57, fmt.Sprintf("the copy behind %d accesses", behind))
		m.Write(12, 1)
		want := []int64{66, 66, 57, 57}[behind]
		for i := behind; i < 3; i++ {
			wantAhead(t, m, f, "the first one, its copy at its end")
			wantStep(t, m, f, i == 2, "the first one, its copy at its end")
		}
		wantEnd(t, m, f, want, fmt.Sprintf("the first one, its copy at its end, behind %d accesses", behind))
	}
}
