package dcss_test

import (
	"fmt"
	"slices"
	"strings"
	"testing"

	"ordinate/api"
	"ordinate/dcss"
	"ordinate/help"
	"ordinate/mem"
	"ordinate/node"
	"ordinate/ref"
	"ordinate/view"
)

// model is the procedure as chapter 14 says it, its accesses written out one by one.
type model struct {
	change
	next    int
	g, o    int64
	record  int
	outcome int
	done    bool
}

func (x *model) step(m *mem.Mem) {
	x.next++
	switch x.next {
	case 1:
		at, ok := m.Make([]int64{int64(x.guard), int64(x.place), x.old, x.new, 0})
		x.at, x.record = at, at
		if !ok {
			x.outcome, x.done = 3, true
		}
	case 2:
		x.done = !m.Cas(x.place, x.old, x.word())
	case 3:
		x.g = m.Read(x.guard)
	case 4:
		m.Cas(x.at+4, 0, becomes(x.g))
	case 5:
		x.o = m.Read(x.at + 4)
	case 6:
		m.Cas(x.place, x.word(), x.leads(x.o))
		x.outcome, x.done = 2, true
		if x.o == 1 {
			x.outcome = 1
		}
	}
}

// wantLike: the frame tells what its model does, over memories that are alike.
func wantLike(t *testing.T, f *dcss.Frame, m *mem.Mem, like model, other *mem.Mem, what string) {
	t.Helper()
	if f.Done() != like.done || f.Outcome() != like.outcome || f.Record() != like.record {
		t.Fatalf("14.1: Done is %t, Outcome %d, Record %d, not %t, %d, %d: %s", f.Done(), f.Outcome(), f.Record(), like.done, like.outcome, like.record, what)
	}
	if !slices.Equal(m.Cells(), other.Cells()) || countsOf(m) != countsOf(other) {
		t.Fatalf("14.1: the memory is %v, %v, not %v, %v: %s", m.Cells(), countsOf(m), other.Cells(), countsOf(other), what)
	}
}

// actor is somebody with accesses of their own, one a step; whether there are no more is told. The key tells how far they are.
type actor interface {
	step(m *mem.Mem) bool
	clone() actor
	key() string
}

// changer is a guarded change of Root, beside its model, and how often its Dcss turned what the slot stands for.
type changer struct {
	f     *dcss.Frame
	like  model
	turns int
}

func newChanger(old, next int64) *changer {
	c := change{3, 6, old, next, 0}
	return &changer{f: c.frame(), like: model{change: c}}
}

func (c *changer) step(m *mem.Mem) bool { return c.f.Step(m) }
func (c *changer) clone() actor         { return &changer{c.f.Clone(), c.like, c.turns} }
func (c *changer) key() string          { return fmt.Sprint(*c.f, c.like, c.turns) }

// looker looks at the slot, some times at most, and helps each Dcss that it sees there.
type looker struct {
	looks int
	f     *help.Frame
}

func (l *looker) step(m *mem.Mem) bool {
	if l.f != nil {
		if l.f.Step(m) {
			l.f = nil
		}
		return l.f == nil && l.looks == 0
	}
	l.looks--
	if w := m.Read(6); ref.Kind(w) == ref.Dcss {
		l.f = help.New(ref.At(w))
	}
	return l.f == nil && l.looks == 0
}

func (l *looker) clone() actor {
	if l.f == nil {
		return &looker{looks: l.looks}
	}
	return &looker{l.looks, l.f.Clone()}
}

func (l *looker) key() string {
	if l.f == nil {
		return fmt.Sprint(l.looks)
	}
	return fmt.Sprint(l.looks, *l.f)
}

// shutter shuts the node that has the slot.
type shutter struct{}

func (shutter) step(m *mem.Mem) bool {
	m.Write(3, 1)
	return true
}

func (shutter) clone() actor { return shutter{} }
func (shutter) key() string  { return "" }

// stage is all that are there, over one memory. It is free, if the guard was 0 at a moment since the slot stands for what it does.
type stage struct {
	t      *testing.T
	m      *mem.Mem
	actors []actor
	over   []bool
	free   bool
	script string
}

func newStage(t *testing.T, m *mem.Mem, actors ...actor) *stage {
	return &stage{t: t, m: m, actors: actors, over: make([]bool, len(actors))}
}

func (s *stage) clone() *stage {
	other := *s
	other.m = s.m.Clone()
	other.over = slices.Clone(s.over)
	other.actors = nil
	for _, a := range s.actors {
		other.actors = append(other.actors, a.clone())
	}
	return &other
}

// key tells two stages apart from which it may go on in other ways.
func (s *stage) key() string {
	var b strings.Builder
	fmt.Fprint(&b, s.m.Cells(), s.over, s.free)
	for _, a := range s.actors {
		b.WriteString(a.key())
		b.WriteByte(';')
	}
	return b.String()
}

// pick lets one of them make one access, and looks at what came of it.
func (s *stage) pick(i int) {
	s.t.Helper()
	s.script += fmt.Sprint(i, " ")
	s.free = s.free || s.m.At(3) == 0
	ahead := s.m.Clone()
	s.over[i] = s.actors[i].step(s.m)
	if s.m.Count() != ahead.Count()+1 || s.m.Odd() != 0 {
		s.t.Fatalf("0.5: %d accesses of one Step, %d are odd: %s", s.m.Count()-ahead.Count(), s.m.Odd(), s.script)
	}
	s.wantLogic(ahead)
	if c, ok := s.actors[i].(*changer); ok {
		s.wantTurned(c, ahead)
		c.like.step(ahead)
		wantLike(s.t, c.f, s.m, c.like, ahead, s.script)
		if s.over[i] != c.f.Done() {
			s.t.Fatalf("14.1: Step is %t, Done %t: %s", s.over[i], c.f.Done(), s.script)
		}
	}
	s.wantTurns()
}

// wantTurned: what a changer turns of the cells that were used ahead of it are the slot, and the Outcome of its own Dcss, once.
func (s *stage) wantTurned(c *changer, ahead *mem.Mem) {
	s.t.Helper()
	for a := 1; a <= ahead.Used(); a++ {
		settles := a == c.f.Record()+node.Outcome && ahead.At(a) == 0
		if was, is := ahead.At(a), s.m.At(a); is != was && a != 6 && !settles {
			s.t.Fatalf("14.1: the cell %d was turned from %d to %d: %s", a, was, is, s.script)
		}
	}
}

// wantLogic: what the slot stands for turns where a Dcss that stands in it is settled as done, from its old word to its new one, the guard being 0, or having been since the old one came; it turns nowhere else.
func (s *stage) wantLogic(ahead *mem.Mem) {
	s.t.Helper()
	was, is := view.Logic(ahead, 6), view.Logic(s.m, 6)
	for _, a := range s.actors {
		c, ok := a.(*changer)
		if !ok || c.f.Record() == 0 || ahead.At(c.f.Record()+node.Outcome) == 1 || s.m.At(c.f.Record()+node.Outcome) != 1 {
			continue
		}
		if ahead.At(6) != ref.Of(ref.Dcss, c.f.Record()) || was != c.like.old || is != c.like.new || !s.free {
			s.t.Fatalf("14.2: the Dcss at %d was done, the slot had %d, and stood for %d, then %d, the guard was 0: %t: %s", c.f.Record(), ahead.At(6), was, is, s.free, s.script)
		}
		c.turns++
		s.free = s.m.At(3) == 0
		return
	}
	if was != is {
		s.t.Fatalf("14.2: nothing was done, and the slot stood for %d, then for %d: %s", was, is, s.script)
	}
}

// wantTurns: who is Done turned what the slot stands for once, who came to something else didn't, nor will.
func (s *stage) wantTurns() {
	s.t.Helper()
	for i, a := range s.actors {
		c, ok := a.(*changer)
		if !ok || !c.f.Done() {
			continue
		}
		if (c.f.Outcome() == dcss.Done) != (c.turns == 1) || c.turns > 1 {
			s.t.Fatalf("14.2: the Outcome of %d is %d, and it turned the slot %d times: %s", i, c.f.Outcome(), c.turns, s.script)
		}
		if r := c.f.Record(); r != 0 && s.m.At(6) == ref.Of(ref.Dcss, r) {
			s.t.Fatalf("14.2: %d is at its end, and its word stands in the slot: %s", i, s.script)
		}
	}
}

// left is who hasn't come to the end.
func (s *stage) left() []int {
	var all []int
	for i, over := range s.over {
		if !over {
			all = append(all, i)
		}
	}
	return all
}

// told is what came of the changes, and what the slot has.
func (s *stage) told() string {
	var b strings.Builder
	for _, a := range s.actors {
		if c, ok := a.(*changer); ok {
			b.WriteString([]string{"not ", "done ", "shut ", "room "}[c.f.Outcome()])
		}
	}
	fmt.Fprint(&b, s.m.At(6))
	return b.String()
}

// each goes through all that may come of a stage, in whatever order they are picked, each state once, and hands over those in which all are at their end. Whoever stops for good does so on the way to these.
func (s *stage) each(seen map[string]bool, see func(*stage)) {
	s.t.Helper()
	left := s.left()
	if len(left) == 0 {
		see(s)
	}
	for _, i := range left {
		next := s.clone()
		next.pick(i)
		if key := next.key(); !seen[key] {
			seen[key] = true
			next.each(seen, see)
		}
	}
}

// wantTold: over all orders just these came to be.
func wantTold(t *testing.T, s *stage, want ...string) {
	t.Helper()
	told := map[string]bool{}
	seen := map[string]bool{}
	s.each(seen, func(end *stage) { told[end.told()] = true })
	var got []string
	for x := range told {
		got = append(got, x)
	}
	slices.Sort(got)
	slices.Sort(want)
	if !slices.Equal(got, want) {
		t.Errorf("14.2: of %d states there came to be %q, not %q", len(seen), got, want)
	}
}

func TestOneAlone(t *testing.T) {
	wantTold(t, newStage(t, begun(t, 40), newChanger(57, 66)), "done 66")
	wantTold(t, newStage(t, guarded(t, 1), newChanger(57, 66)), "shut 57")
	wantTold(t, newStage(t, begun(t, 40), newChanger(66, 57)), "not 57")
	wantTold(t, newStage(t, begun(t, 11), newChanger(57, 66)), "room 57")
	wantTold(t, newStage(t, begun(t, 40), newChanger(57, 57)), "done 57")
}

func TestTheGuardIsShut(t *testing.T) {
	wantTold(t, newStage(t, begun(t, 40), newChanger(57, 66), shutter{}), "done 66", "shut 57")
	wantTold(t, newStage(t, begun(t, 40), newChanger(57, 66), shutter{}, &looker{looks: 2}, &looker{looks: 2}), "done 66", "shut 57")
}

func TestTwoFromOneWord(t *testing.T) {
	wantTold(t, newStage(t, begun(t, 40), newChanger(57, 66), newChanger(57, 74)), "done not 66", "not done 74")
	wantTold(t, newStage(t, begun(t, 40), newChanger(57, 66), newChanger(57, 66)), "done not 66", "not done 66")
	wantTold(t, newStage(t, guarded(t, 1), newChanger(57, 66), newChanger(57, 74)), "shut not 57", "not shut 57", "shut shut 57")
	wantTold(t, newStage(t, begun(t, 40), newChanger(57, 66), newChanger(57, 74), shutter{}, &looker{looks: 2}),
		"done not 66", "not done 74", "shut not 57", "not shut 57", "shut shut 57")
}

// With room for one Dcss the one that makes it first has it, and it may be the one that comes to nothing.
func TestTwoAndRoomForOne(t *testing.T) {
	wantTold(t, newStage(t, begun(t, 12), newChanger(57, 66), newChanger(57, 74)), "done room 66", "room done 74")
	wantTold(t, newStage(t, begun(t, 12), newChanger(57, 66), newChanger(66, 74), shutter{}), "done room 66", "shut room 57", "room not 57")
}

// The second one goes on from where the first one leads: it may be done only when that one is, and each that is done counts.
func TestOneBehindTheOther(t *testing.T) {
	wantTold(t, newStage(t, begun(t, 40), newChanger(57, 66), newChanger(66, 74), shutter{}, &looker{looks: 2}),
		"done done 74", "done not 66", "done shut 66", "shut not 57")
}

// A word that the slot had comes back, while others are at what they found there the first time.
func TestAWordComesBack(t *testing.T) {
	wantTold(t, newStage(t, begun(t, 40), newChanger(57, 66), newChanger(66, 57), newChanger(57, 74), &looker{looks: 1}),
		"done done done 74", "done done not 57", "done not not 66", "not not done 74")
	wantTold(t, newStage(t, begun(t, 40), newChanger(57, 57), newChanger(57, 66), &looker{looks: 2}),
		"done done 66", "done not 57", "not done 66")
}

func TestThreeAndTwoThatHelp(t *testing.T) {
	wantTold(t, newStage(t, begun(t, 40), newChanger(57, 66), newChanger(57, 74), newChanger(66, 82), &looker{looks: 1}, &looker{looks: 1}),
		"done not done 82", "done not not 66", "not done not 74")
}

// crowd is changers of one slot, each of whose words may follow the one ahead, some that are in each other's way or lead back, lookers, and one that shuts.
func crowd(turn int) []actor {
	var all []actor
	for i := range int64(4) {
		all = append(all, newChanger(57+8*i, 65+8*i), newChanger(57+8*i, 401+8*i), newChanger(65+8*i, 57+8*i))
	}
	for range 8 {
		all = append(all, &looker{looks: 6})
	}
	if turn%2 == 0 {
		all = append(all, shutter{})
	}
	return all
}

// ready tells whether somebody is under way, or may well begin: a change has its old word in the slot. Who shuts had better come late.
func (s *stage) ready(i int) bool {
	switch a := s.actors[i].(type) {
	case *changer:
		return a.f.Record() != 0 || a.like.old == view.Logic(s.m, 6)
	case shutter:
		return false
	}
	return true
}

// However many stop for good, and wherever: whoever goes on has six accesses at most, and what came of it holds.
func TestManyInWhateverOrder(t *testing.T) {
	d := dice(5)
	came := [4]int{}
	stood := map[int64]int{}
	for turn := range 2000 {
		actors := crowd(turn)
		// In each fifth one there is room for some of the Dcss alone.
		size := 7 + 5*len(actors)
		if turn%5 == 0 {
			size = 7 + 5*d.below(len(actors)) + d.below(5)
		}
		s := newStage(t, begun(t, size), actors...)
		stops := make([]int, len(actors))
		for i := range stops {
			stops[i] = d.below(500)
		}
		for pick := range 300 {
			i := d.below(len(actors))
			if !s.over[i] && pick < stops[i] && (s.ready(i) || d.below(8) == 0) {
				s.pick(i)
			}
		}
		stood[view.Logic(s.m, 6)]++
		for i, a := range actors {
			c, ok := a.(*changer)
			if !ok || d.below(2) == 0 {
				continue
			}
			for n := 0; !s.over[i]; n++ {
				if n == whole {
					t.Fatalf("14.1: alone it has more than %d accesses: %s", whole, s.script)
				}
				s.pick(i)
			}
			came[c.f.Outcome()]++
		}
	}
	if came[dcss.Done] < 1000 || came[dcss.Shut] < 100 || came[dcss.Not] < 1000 || came[dcss.Room] < 500 || len(stood) < 7 {
		t.Errorf("too little came to be: %v, %v", came, stood)
	}
}

// Whatever words stand there, and whatever others turn between the accesses, as long as none of them is odd.
func TestAnyMemory(t *testing.T) {
	d := dice(13)
	came := [4]int{}
	const used = 12
	word := func() int64 {
		return []int64{0, 0, 1, 2, 57, 66, 109, int64(d.below(200)), -int64(d.below(200)), 5 + 8*int64(d.below(2*used))}[d.below(10)]
	}
	for range 20000 {
		m := fresh(t, used+3+d.below(20))
		for range used {
			m.Make([]int64{word()})
		}
		c := change{1 + d.below(used+5), 1 + d.below(used+5), word(), word(), 0}
		if d.below(2) == 0 {
			c.old = m.At(c.place)
		}
		f, like, was := c.frame(), model{change: c}, m.Cells()
		what := fmt.Sprintf("%+v of %v", c, was)
		for !like.done {
			for range d.below(3) {
				m.Write(1+d.below(m.Used()), word())
			}
			other := m.Clone()
			like.step(other)
			ahead := m.Count()
			if over := f.Step(m); over != f.Done() || m.Count() != ahead+1 {
				t.Fatalf("0.5: %d accesses of one Step, it is %t, Done %t: %s", m.Count()-ahead, over, f.Done(), what)
			}
			if other.Odd() != 0 {
				break
			}
			wantLike(t, f, m, like, other, what)
		}
		if m.Odd() == 0 {
			came[like.outcome]++
		}
	}
	if slices.Min(came[:]) < 500 {
		t.Errorf("too few of a kind: %v", came)
	}
}

// In the greatest memory, whose cells are used up by changes one behind the other: each is done, and the last ones have no room.
func TestAsManyAsThereIsRoomFor(t *testing.T) {
	m := begun(t, api.MaxCells)
	for i := range (api.MaxCells - 7) / 5 {
		c := change{3, 6, 57 + int64(i), 58 + int64(i), 8 + 5*i}
		f := c.frame()
		for n := 1; !f.Step(m); n++ {
			if n > whole {
				t.Fatalf("14.1: the change %d does not end", i)
			}
		}
		if f.Outcome() != dcss.Done || f.Record() != c.at || m.At(6) != c.new {
			t.Fatalf("14.1: the Outcome of the change %d is %d, its Record %d, the slot has %d", i, f.Outcome(), f.Record(), m.At(6))
		}
	}
	last := m.At(6)
	wantRoom(t, m, change{3, 6, last, 57, 0}, "all room is used up")
	if m.At(6) != last || m.Odd() != 0 {
		t.Errorf("14.1: the slot has %d, not %d, %d accesses are odd", m.At(6), last, m.Odd())
	}
}
