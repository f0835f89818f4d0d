package help_test

import (
	"fmt"
	"slices"
	"testing"

	"ordinate/help"
	"ordinate/mem"
	"ordinate/node"
	"ordinate/ref"
	"ordinate/view"
)

// actor is somebody with accesses of their own, one a step; whether there are no more is told.
type actor interface{ step(m *mem.Mem) bool }

// helper is a help of the Dcss at an address, how many accesses it made, and what the last Step told.
type helper struct {
	f    *help.Frame
	at   int
	made int
	over bool
}

func newHelper(at int) *helper { return &helper{f: help.New(at), at: at} }

func (h *helper) step(m *mem.Mem) bool {
	h.made++
	h.over = h.f.Step(m)
	return h.over
}

// looker looks at the slot, some times at most, and helps the first Dcss that it sees there.
type looker struct {
	helper
	looks int
}

func (l *looker) step(m *mem.Mem) bool {
	if l.f != nil {
		return l.helper.step(m)
	}
	l.looks--
	if w := m.Read(node.Root); ref.Kind(w) == ref.Dcss {
		l.helper = *newHelper(ref.At(w))
		return false
	}
	return l.looks <= 0
}

// changer makes a guarded change of Root, access by access, as chapter 14 says.
type changer struct {
	next     int
	old, new int64
	at       int
	g, o     int64
}

func (c *changer) step(m *mem.Mem) bool {
	word := ref.Of(ref.Dcss, c.at)
	c.next++
	switch c.next {
	case 1:
		c.at, _ = m.Make(node.DcssWords(node.Base+node.Shut, node.Root, c.old, c.new))
	case 2:
		return !m.Cas(node.Root, c.old, word)
	case 3:
		c.g = m.Read(node.Base + node.Shut)
	case 4:
		m.Cas(c.at+node.Outcome, 0, becomes(c.g))
	case 5:
		c.o = m.Read(c.at + node.Outcome)
	case 6:
		x := c.old
		if c.o == 1 {
			x = c.new
		}
		m.Cas(node.Root, word, x)
	}
	return c.next >= 6
}

// twice is two actors one behind the other: the one whose turn it is, and the one that is left.
type twice struct {
	now, then actor
	over      bool
}

func (x *twice) step(m *mem.Mem) bool {
	if x.over {
		x.now, x.then = x.then, nil
	}
	x.over = x.now.step(m)
	return x.over && x.then == nil
}

// shutter shuts the node that has the slot.
type shutter struct{}

func (shutter) step(m *mem.Mem) bool {
	m.Write(node.Base+node.Shut, 1)
	return true
}

// stage is all that are there, over one memory; gone are the words of the Dcss that one has helped to its end.
type stage struct {
	t      *testing.T
	m      *mem.Mem
	actors []actor
	over   []bool
	gone   []int64
	script []int
}

func newStage(t *testing.T, m *mem.Mem, actors []actor) *stage {
	return &stage{t: t, m: m, actors: actors, over: make([]bool, len(actors))}
}

// pick lets one of them make one access, and looks at what it did.
func (s *stage) pick(i int) {
	s.script = append(s.script, i)
	ahead, logic, cells := s.m.Count(), view.Logic(s.m, node.Root), s.m.Cells()
	s.over[i] = s.actors[i].step(s.m)
	if s.m.Count() != ahead+1 || s.m.Odd() != 0 {
		s.t.Fatalf("0.5: %d accesses of one Step, %d are odd: %v", s.m.Count()-ahead, s.m.Odd(), s.script)
	}
	if h := helperOf(s.actors[i]); h != nil {
		s.wantHelped(h, cells)
	}
	if slices.Contains(s.gone, s.m.At(node.Root)) {
		s.t.Fatalf("12.2: the word %d stands there again: %v", s.m.At(node.Root), s.script)
	}
	s.wantLogic(logic, cells)
}

// helperOf tells the helper that made the last access, if it was one.
func helperOf(a actor) *helper {
	switch a := a.(type) {
	case *helper:
		return a
	case *looker:
		if a.made > 0 {
			return &a.helper
		}
	case *twice:
		return helperOf(a.now)
	}
	return nil
}

// wantHelped: a helper's access turned nothing but an Outcome that was open and a slot with that very word, each in its turn; its seventh is its last.
func (s *stage) wantHelped(h *helper, ahead []int64) {
	if h.over != (h.made == accesses) || h.f.Done() != h.over {
		s.t.Fatalf("12.1: Step is %t, Done %t behind %d accesses: %v", h.over, h.f.Done(), h.made, s.script)
	}
	outcome, word := h.at+node.Outcome, ref.Of(ref.Dcss, h.at)
	for j, x := range s.m.Cells() {
		if x == ahead[j] {
			continue
		}
		settles := j+1 == outcome && h.made == 3 && ahead[j] == 0
		swings := j+1 == node.Root && h.made == 7 && ahead[j] == word
		if !settles && !swings {
			s.t.Fatalf("12.1: the access %d turned the cell %d from %d to %d: %v", h.made, j+1, ahead[j], x, s.script)
		}
	}
	if h.over {
		s.gone = append(s.gone, word)
		if x := s.m.At(outcome); x != 1 && x != 2 {
			s.t.Fatalf("12.2: at the end the Outcome is %d: %v", x, s.script)
		}
	}
}

// wantLogic: what the slot stands for turns where the Outcome of the Dcss that stands in it becomes 1, from its Old to its New, and nowhere else.
func (s *stage) wantLogic(logic int64, ahead []int64) {
	want := logic
	if w := ahead[node.Root-1]; ref.Kind(w) == ref.Dcss {
		outcome := ref.At(w) + node.Outcome
		if was, is := ahead[outcome-1], s.m.At(outcome); was != 0 && was != is {
			s.t.Fatalf("12.2: the Outcome was %d, and is %d: %v", was, is, s.script)
		} else if was != 1 && is == 1 {
			want = s.m.At(ref.At(w) + node.New)
		}
	}
	if got := view.Logic(s.m, node.Root); got != want {
		s.t.Fatalf("12.2: the slot stood for %d, and stands for %d, not %d: %v", logic, got, want, s.script)
	}
}

// eachOrder runs all orders in which the actors may be picked, to the end of all of them, and hands each stage over; whoever stops for good does so in the beginnings of these. It tells how many there were.
func eachOrder(t *testing.T, lay func() (*mem.Mem, []actor), see func(s *stage)) int {
	runs := 0
	var from func(script []int)
	from = func(script []int) {
		m, actors := lay()
		s := newStage(t, m, actors)
		for _, i := range script {
			s.pick(i)
		}
		// The last of these stages goes on by itself; the others are run anew up to here.
		for {
			left := s.left()
			if len(left) == 0 {
				break
			}
			for _, i := range left[1:] {
				from(append(slices.Clone(s.script), i))
			}
			s.pick(left[0])
		}
		runs++
		see(s)
	}
	from(nil)
	return runs
}

// left is who hasn't come to the end.
func (s *stage) left() []int {
	var all []int
	for i, over := range s.over {
		if !over {
			all = append(all, i)
		}
	}
	return all
}

// wantCame: over all orders the slot came to each of these words, and to no other, and so did the Outcome of the Dcss at 8 that goes with it.
func wantCame(t *testing.T, runs int, lay func() (*mem.Mem, []actor), words ...int64) {
	t.Helper()
	seen := map[int64]int{}
	got := eachOrder(t, lay, func(s *stage) {
		word := s.m.At(node.Root)
		seen[word]++
		if outcome := s.m.At(12); word != []int64{1: 66, 2: 57}[outcome] {
			t.Errorf("12.2: the Outcome is %d, and the slot has %d: %v", outcome, word, s.script)
		}
	})
	if got != runs {
		t.Errorf("there were %d orders, not %d", got, runs)
	}
	for _, w := range words {
		if seen[w] == 0 {
			t.Errorf("12.2: in none of %d orders the slot comes to %d: %v", got, w, seen)
		}
		delete(seen, w)
	}
	if len(seen) != 0 {
		t.Errorf("12.2: in some orders the slot comes to what was never to stand there: %v", seen)
	}
}

func TestTwoHelp(t *testing.T) {
	for guard := range int64(2) {
		wantCame(t, 3432, func() (*mem.Mem, []actor) {
			return hung(t, guard, 0), []actor{newHelper(8), newHelper(8)}
		}, []int64{66, 57}[guard])
	}
}

func TestOneHelpsAndTheGuardIsShut(t *testing.T) {
	wantCame(t, 8, func() (*mem.Mem, []actor) {
		return hung(t, 0, 0), []actor{newHelper(8), shutter{}}
	}, 57, 66)
}

func TestTwoHelpAndTheGuardIsShut(t *testing.T) {
	wantCame(t, 3432*15, func() (*mem.Mem, []actor) {
		return hung(t, 0, 0), []actor{newHelper(8), newHelper(8), shutter{}}
	}, 57, 66)
}

// One helps the change that its own changer is still at, which is ahead of its third access.
func TestAHelperBesideTheChanger(t *testing.T) {
	wantCame(t, 330*12, func() (*mem.Mem, []actor) {
		m, c := begun(t, 40), &changer{old: 57, new: 66}
		c.step(m)
		c.step(m)
		return m, []actor{newHelper(8), c, shutter{}}
	}, 57, 66)
}

// One helps to the end and then changes the slot anew, while another one still helps the first Dcss: nothing of the second change is lost.
func TestALateHelper(t *testing.T) {
	runs := eachOrder(t, func() (*mem.Mem, []actor) {
		return hung(t, 0, 0), []actor{&twice{now: newHelper(8), then: &changer{old: 66, new: 74}}, newHelper(8)}
	}, func(s *stage) {
		if x := s.m.At(node.Root); x != 74 || s.m.At(12) != 1 {
			t.Errorf("12.2: the slot has %d, the Outcome is %d: %v", x, s.m.At(12), s.script)
		}
	})
	if runs != 77520 {
		t.Errorf("there were %d orders, not 77520", runs)
	}
}

// crowd is changers of one slot, each of whose words may follow the one ahead, some that are in each other's way, helpers of whatever they meet, and one that shuts.
func crowd(round int) []actor {
	var all []actor
	for i := range int64(4) {
		all = append(all, &changer{old: 57 + 8*i, new: 65 + 8*i}, &changer{old: 57 + 8*i, new: 401 + 8*i})
	}
	for range 8 {
		all = append(all, &looker{looks: 12})
	}
	if round%3 == 0 {
		all = append(all, shutter{})
	}
	return all
}

func TestManyInWhateverOrder(t *testing.T) {
	d := dice(7)
	ended, came := 0, map[int64]int{}
	for round := range 2000 {
		s := newStage(t, begun(t, 100), crowd(round))
		// Some stop for good somewhere: from a pick on they are not picked any more.
		stops := make([]int, len(s.actors))
		for i := range stops {
			stops[i] = d.below(250)
		}
		for pick := range 200 {
			if i := d.below(len(s.actors)); !s.over[i] && pick < stops[i] {
				s.pick(i)
			}
		}
		ended += len(s.gone)
		came[view.Logic(s.m, node.Root)]++
	}
	if ended < 2000 || len(came) < 5 {
		t.Errorf("too little came to be: %d helped to the end, %v", ended, came)
	}
}

// However many stopped for good, and wherever: who comes by at last ends it alone.
func TestWhoComesByAtLast(t *testing.T) {
	d := dice(3)
	for round := range 2000 {
		s := newStage(t, hung(t, int64(round%2), 0), nil)
		for range 9 {
			s.actors = append(s.actors, newHelper(8))
		}
		s.actors = append(s.actors, shutter{}, newHelper(8))
		s.over = make([]bool, len(s.actors))
		last := len(s.actors) - 1
		for range d.below(20) {
			if i := d.below(last); !s.over[i] {
				s.pick(i)
			}
		}
		outcome := s.m.At(12)
		for !s.over[last] {
			s.pick(last)
		}
		// Nobody is left who could settle it anew.
		settled, word := s.m.At(12), s.m.At(6)
		if outcome != 0 && settled != outcome || word != []int64{1: 66, 2: 57}[settled] {
			t.Fatalf("12.2: the Outcome was %d, and is %d, the slot has %d: %v", outcome, settled, word, s.script)
		}
		for len(s.left()) > 0 {
			s.pick(s.left()[d.below(len(s.left()))])
			if s.m.At(12) != settled || s.m.At(6) != word {
				t.Fatalf("12.2: behind its end the Outcome is %d, the slot has %d: %v", s.m.At(12), s.m.At(6), s.script)
			}
		}
	}
}

// Frames of several Dcss over one memory don't see each other.
func TestTwoDcss(t *testing.T) {
	m := hung(t, 0, 0)
	m.Write(14, 7)
	m.Write(7, 109)
	one, other := help.New(8), help.New(13)
	ones := [accesses + 1]map[int]int64{3: {12: 1}, 7: {6: 66}}
	others := [accesses + 1]map[int]int64{3: {17: 2}, 7: {7: 74}}
	wantStep(t, m, one, 1, nil, "one")
	wantStep(t, m, one, 2, nil, "one")
	m.Write(3, 1)
	for i := 1; i <= 5; i++ {
		wantStep(t, m, other, i, others[i], "the other")
		wantStep(t, m, one, i+2, ones[i+2], "one")
	}
	wantStep(t, m, other, 6, nil, "the other")
	wantEnd(t, m, one, "one")
	wantStep(t, m, other, 7, others[7], "the other")
	wantEnd(t, m, other, "the other")
}

// A copy goes on from where the other one stops, by itself.
func TestClone(t *testing.T) {
	for behind := range accesses + 1 {
		what := fmt.Sprintf("copied behind %d accesses", behind)
		m := hung(t, 0, 0)
		f := help.New(8)
		turns := [accesses + 1]map[int]int64{3: {12: 1}, 7: {6: 66}}
		for i := 1; i <= behind; i++ {
			wantStep(t, m, f, i, turns[i], "the first one, "+what)
		}
		ahead := countsOf(m)
		c := f.Clone()
		if got := countsOf(m); got != ahead {
			t.Errorf("0.5: Clone made accesses: %v, not %v", got, ahead)
		}
		for i := behind + 1; i <= accesses; i++ {
			wantStep(t, m, c, i, turns[i], "the copy, "+what)
		}
		wantEnd(t, m, c, "the copy, "+what)
		// The first one finds all of it done.
		for i := behind + 1; i <= accesses; i++ {
			wantStep(t, m, f, i, nil, "the first one, its copy at its end, "+what)
		}
		wantEnd(t, m, f, "the first one, its copy at its end, "+what)
	}
}
