package read_test

import (
	"fmt"
	"slices"
	"testing"

	"ordinate/api"
	"ordinate/mem"
	"ordinate/node"
	"ordinate/read"
	"ordinate/ref"
)

// model is the procedure as the chapters 12 and 13 say it, its accesses written out one by one.
type model struct {
	slot, next    int
	at, p, s      int
	becomes, o, v int64
	word          int64
	done          bool
}

func (x *model) step(m *mem.Mem) {
	switch x.next {
	case 0:
		w := m.Read(x.slot)
		if w < 8 || w%8 != 5 || w/8 > api.MaxCells {
			x.word, x.done = w, true
			return
		}
		x.at = int(w / 8)
	case 1:
		x.p = int(m.Read(x.at))
	case 2:
		x.becomes = becomes(m.Read(x.p))
	case 3:
		m.Cas(x.at+4, 0, x.becomes)
	case 4:
		x.o = m.Read(x.at + 4)
	case 5:
		x.s = int(m.Read(x.at + 1))
	case 6:
		if x.o == 1 {
			x.v = m.Read(x.at + 3)
		} else {
			x.v = m.Read(x.at + 2)
		}
	case 7:
		m.Cas(x.s, int64(8*x.at+5), x.v)
	}
	x.next = (x.next + 1) % 8
}

// actor is somebody with accesses of their own, one a step; whether there are no more is told.
type actor interface{ step(m *mem.Mem) bool }

// reader is a read of Root beside its model, how many accesses it made, and the moments of the first and the last of them. It may be one that waits for another one's end.
type reader struct {
	f           *read.Frame
	like        model
	accesses    int
	first, last int
	ahead       *reader
}

func newReader() *reader {
	return &reader{f: read.New(node.Root), like: model{slot: node.Root}}
}

func (r *reader) step(m *mem.Mem) bool {
	r.accesses++
	return r.f.Step(m)
}

// changer makes a guarded change of Root, access by access, as chapter 14 says, but that it may try more than once to lay its word there.
type changer struct {
	next     int
	tries    int
	old, new int64
	at       int
	g, o     int64
}

func (c *changer) step(m *mem.Mem) bool {
	word := ref.Of(ref.Dcss, c.at)
	c.next++
	switch c.next {
	case 1:
		c.at, _ = m.Make(node.DcssWords(node.Base+node.Shut, node.Root, c.old, c.new))
	case 2:
		if m.Cas(node.Root, c.old, word) {
			return false
		}
		c.tries--
		c.next--
		return c.tries <= 0
	case 3:
		c.g = m.Read(node.Base + node.Shut)
	case 4:
		m.Cas(c.at+node.Outcome, 0, becomes(c.g))
	case 5:
		c.o = m.Read(c.at + node.Outcome)
	case 6:
		x := c.old
		if c.o == 1 {
			x = c.new
		}
		m.Cas(node.Root, word, x)
	}
	return c.next >= 6
}

// layer puts a word in the place of another one in Root, and tries that some times.
type layer struct {
	tries    int
	old, new int64
}

func (l *layer) step(m *mem.Mem) bool {
	l.tries--
	return m.Cas(node.Root, l.old, l.new) || l.tries == 0
}

// shutter shuts the node that has the slot.
type shutter struct{}

func (shutter) step(m *mem.Mem) bool {
	m.Write(node.Base+node.Shut, 1)
	return true
}

// stage is all that are there, over one memory; stood are the words that stood at Root ahead of each access.
type stage struct {
	t      *testing.T
	m      *mem.Mem
	actors []actor
	over   []bool
	stood  []int64
	script []int
}

func newStage(t *testing.T, m *mem.Mem, actors []actor) *stage {
	return &stage{t: t, m: m, actors: actors, over: make([]bool, len(actors))}
}

// pick lets one of them make one access, and looks at what a reader did.
func (s *stage) pick(i int) {
	s.script = append(s.script, i)
	s.stood = append(s.stood, s.m.At(node.Root))
	r, isReader := s.actors[i].(*reader)
	if !isReader {
		s.over[i] = s.actors[i].step(s.m)
		return
	}
	ahead := s.m.Clone()
	s.over[i] = r.step(s.m)
	r.last = len(s.stood) - 1
	if r.accesses == 1 {
		r.first = r.last
	}
	s.wantTurned(r, ahead.Cells())
	r.like.step(ahead)
	if !slices.Equal(s.m.Cells(), ahead.Cells()) || countsOf(s.m) != countsOf(ahead) || s.m.Odd() != 0 {
		s.t.Fatalf("13.1: the memory is %v, %v, not %v, %v: %v", s.m.Cells(), countsOf(s.m), ahead.Cells(), countsOf(ahead), s.script)
	}
	if s.over[i] != r.like.done || r.f.Done() != r.like.done || r.f.Word() != r.like.word {
		s.t.Fatalf("13.1: Step is %t, Done %t, Word %d, not %t and %d: %v", s.over[i], r.f.Done(), r.f.Word(), r.like.done, r.like.word, s.script)
	}
	s.wantStood(r)
}

// wantTurned: what a reader turns are open Outcomes, and slots that hold the word of the Dcss that is taken out.
func (s *stage) wantTurned(r *reader, ahead []int64) {
	for j, x := range s.m.Cells() {
		was := ahead[j]
		settles := was == 0 && (x == 1 || x == 2)
		takes := j+1 == node.Root && ref.Kind(was) == ref.Dcss && (x == s.m.At(ref.At(was)+node.Old) || x == s.m.At(ref.At(was)+node.New))
		if x != was && !settles && !takes {
			s.t.Fatalf("13.1: the access %d turned the cell %d from %d to %d: %v", r.accesses, j+1, was, x, s.script)
		}
	}
}

// wantStood: what a reader tells at its end is no Dcss's word, and stood in the slot at a moment while it was under way.
func (s *stage) wantStood(r *reader) {
	if !r.f.Done() {
		return
	}
	if w := r.f.Word(); ref.Kind(w) == ref.Dcss || !slices.Contains(s.stood[r.first:r.last+1], w) {
		s.t.Fatalf("13.1: Word is %d, of %v: %v", w, s.stood[r.first:r.last+1], s.script)
	}
}

// left is who hasn't come to the end, and waits for nobody.
func (s *stage) left() []int {
	var all []int
	for i, over := range s.over {
		r, isReader := s.actors[i].(*reader)
		waits := isReader && r.ahead != nil && !r.ahead.f.Done()
		if !over && !waits {
			all = append(all, i)
		}
	}
	return all
}

// eachOrder runs all orders in which the actors may be picked, to the end of all of them, and hands each stage over; whoever stops for good does so in the beginnings of these. It tells how many there were.
func eachOrder(t *testing.T, lay func() (*mem.Mem, []actor), see func(s *stage)) int {
	runs := 0
	var from func(script []int)
	from = func(script []int) {
		m, actors := lay()
		s := newStage(t, m, actors)
		for _, i := range script {
			s.pick(i)
		}
		// The last of these stages goes on by itself; the others are run anew up to here.
		for left := s.left(); len(left) > 0; left = s.left() {
			for _, i := range left[1:] {
				from(append(slices.Clone(s.script), i))
			}
			s.pick(left[0])
		}
		runs++
		see(s)
	}
	from(nil)
	return runs
}

// wantTold: over all orders the first reader told each of these words by so many accesses, and nothing else.
func wantTold(t *testing.T, lay func() (*mem.Mem, []actor), told map[int64][]int) {
	t.Helper()
	seen := map[int64][]int{}
	runs := eachOrder(t, lay, func(s *stage) {
		r := s.actors[0].(*reader)
		w := r.f.Word()
		if !slices.Contains(seen[w], r.accesses) {
			seen[w] = append(seen[w], r.accesses)
		}
	})
	for _, accesses := range seen {
		slices.Sort(accesses)
	}
	if got, want := fmt.Sprint(seen), fmt.Sprint(told); got != want {
		t.Errorf("13.1: in %d orders the words and accesses are %s, not %s", runs, got, want)
	}
}

func TestOneReadsAndTheGuardIsShut(t *testing.T) {
	wantTold(t, func() (*mem.Mem, []actor) {
		return hung(t, 0, 0), []actor{newReader(), shutter{}}
	}, map[int64][]int{57: {9}, 66: {9}})
}

// One that comes behind the other one's end has one access.
func TestTwoRead(t *testing.T) {
	for guard := range int64(2) {
		wantTold(t, func() (*mem.Mem, []actor) {
			return hung(t, guard, 0), []actor{newReader(), newReader()}
		}, map[int64][]int{leads(becomes(guard)): {1, 9}})
	}
}

func TestAReaderBesideAChanger(t *testing.T) {
	wantTold(t, func() (*mem.Mem, []actor) {
		return begun(t, 40), []actor{newReader(), &changer{old: 57, new: 66}, shutter{}}
	}, map[int64][]int{57: {1, 9}, 66: {1, 9}})
	// One that finds another word turns nothing.
	wantTold(t, func() (*mem.Mem, []actor) {
		return begun(t, 40), []actor{newReader(), &changer{old: 66, new: 74}}
	}, map[int64][]int{57: {1}})
}

// While the first change is ended the second one comes, and a third one of a word that was there.
func TestChangesInARow(t *testing.T) {
	wantTold(t, func() (*mem.Mem, []actor) {
		m := hung(t, 0, 0)
		return m, []actor{newReader(), &layer{tries: 3, old: 66, new: 109}, &layer{tries: 2, old: 74, new: 82}}
	}, map[int64][]int{66: {9}, 74: {17}, 82: {17}})
}

// Of two readers the one that begins behind the other's end tells nothing that was gone by then (each word comes but once).
func TestOneReadsBehindTheOther(t *testing.T) {
	rank := map[int64]int{57: 0, 66: 1}
	seen := map[string]int{}
	eachOrder(t, func() (*mem.Mem, []actor) {
		one := newReader()
		other := newReader()
		other.ahead = one
		return begun(t, 40), []actor{one, other, &changer{old: 57, new: 66}}
	}, func(s *stage) {
		one, other := s.actors[0].(*reader).f.Word(), s.actors[1].(*reader).f.Word()
		seen[fmt.Sprint(one, other)]++
		if rank[one] > rank[other] {
			t.Errorf("13.1: %d was told, and then %d: %v", one, other, s.script)
		}
	})
	if len(seen) != 3 {
		t.Errorf("13.1: the two told %v", seen)
	}
}

// readers is how many readers a crowd has; each eighth of them waits for the one ahead.
const readers = 32

// crowd is readers of one slot, changers each of whose words may follow the one ahead, some that are in each other's way, and one that shuts.
func crowd(turn int) []actor {
	var all []actor
	for i := range readers {
		r := newReader()
		if i >= 8 {
			r.ahead = all[i-8].(*reader)
		}
		all = append(all, r)
	}
	for i := range int64(9) {
		all = append(all, &changer{tries: 20, old: 57 + 8*i, new: 65 + 8*i})
	}
	all = append(all, &changer{tries: 2, old: 65, new: 401}, &changer{tries: 2, old: 73, new: 409})
	if turn%3 == 0 {
		all = append(all, shutter{})
	}
	return all
}

func TestManyInWhateverOrder(t *testing.T) {
	d := dice(9)
	words, accesses := map[int64]int{}, map[int]int{}
	for turn := range 1500 {
		s := newStage(t, begun(t, 100), crowd(turn))
		// Some stop for good somewhere: from a pick on they are not picked any more.
		stops := make([]int, len(s.actors))
		for i := range stops {
			stops[i] = d.below(600)
		}
		for pick := range 300 {
			i := d.below(len(s.actors))
			if pick%2 == 0 {
				i = readers + d.below(len(s.actors)-readers)
			}
			if slices.Contains(s.left(), i) && pick < stops[i] {
				s.pick(i)
			}
		}
		// Whoever goes on alone ends the help that it is at, and one change more at most.
		for i, a := range s.actors[:readers] {
			alone := 0
			for ; !s.over[i]; alone++ {
				s.pick(i)
			}
			if alone > 2*round {
				t.Fatalf("13.1: alone it has %d accesses more: %v", alone, s.script)
			}
			words[a.(*reader).f.Word()]++
			accesses[a.(*reader).accesses]++
		}
	}
	for n := range accesses {
		if n%round != 1 {
			t.Errorf("13.1: a read of %d accesses", n)
		}
	}
	if len(words) < 6 || accesses[1] < 1000 || accesses[1+round] < 1000 || accesses[1+2*round] < 100 {
		t.Errorf("too little came to be: %v, %v", words, accesses)
	}
}

// shuffled is a memory of four records that are laid out as Dcss are, most of which have the same slot, 22, and of some cells behind them; words refer to any of these, or to none.
func shuffled(t *testing.T, d *dice) *mem.Mem {
	t.Helper()
	m := fresh(t, 24)
	word := func() int64 {
		return []int64{5 + 8, 5 + 48, 5 + 88, 5 + 128, 5 + 8*int64(1+d.below(20)), int64(d.below(200)), -int64(d.below(200)), 57}[d.below(8)]
	}
	for range 4 {
		place := 22
		if d.below(6) == 0 {
			place = 1 + d.below(24)
		}
		m.Make([]int64{int64(1 + d.below(24)), int64(place), word(), word(), int64(d.below(3))})
	}
	m.Make([]int64{0, word(), int64(d.below(2)), word()})
	return m
}

// Whatever words stand there, as long as no access is odd.
func TestAnyMemory(t *testing.T) {
	d := dice(11)
	ends := map[int]int{}
	for range 4000 {
		m := shuffled(t, &d)
		slot := []int{22, 22, 1 + d.below(24)}[d.below(3)]
		f, like, was := read.New(slot), model{slot: slot}, m.Cells()
		for i := 1; i <= 4*round && !like.done; i++ {
			ahead, other := m.Count(), m.Clone()
			like.step(other)
			over := f.Step(m)
			if m.Count() != ahead+1 || f.Done() != over {
				t.Fatalf("0.5: %d accesses of one Step, it is %t, Done %t: the slot %d of %v", m.Count()-ahead, over, f.Done(), slot, was)
			}
			if other.Odd() != 0 {
				break
			}
			if !slices.Equal(m.Cells(), other.Cells()) || m.Odd() != 0 || over != like.done || f.Word() != like.word {
				t.Fatalf("13.1: behind %d accesses Step is %t, Word %d, not %t, %d: the slot %d of %v", i, over, f.Word(), like.done, like.word, slot, was)
			}
			if over {
				ends[i]++
			}
		}
	}
	if ends[1] < 500 || ends[1+round] < 200 || ends[1+2*round] < 50 || ends[1+3*round] < 10 {
		t.Errorf("too few of a kind: %v", ends)
	}
}

// Frames of one slot, and of several, don't see each other.
func TestFramesDoNotSeeEachOther(t *testing.T) {
	m := hung(t, 0, 0)
	m.Write(14, 7)
	m.Write(7, 109)
	one, same, other := read.New(6), read.New(6), read.New(7)
	ones, sames, others := turns{4: {12: 1}}, turns{8: {6: 66}}, turns{4: {17: 2}, 8: {7: 66}}
	wantSteps(t, m, one, 1, 4, 9, ones, "one")
	m.Write(3, 1)
	wantSteps(t, m, other, 1, 5, 9, others, "the other slot's")
	wantSteps(t, m, same, 1, 8, 9, sames, "the same slot's")
	wantSteps(t, m, one, 5, 9, 9, nil, "one")
	wantSteps(t, m, other, 6, 9, 9, others, "the other slot's")
	m.Write(6, 74)
	wantSteps(t, m, same, 9, 9, 9, nil, "the same slot's")
	wantEnd(t, m, one, 66, "one")
	wantEnd(t, m, same, 74, "the same slot's")
	wantEnd(t, m, other, 66, "the other slot's")
}

// A copy goes on from where the other one stops, by itself.
func TestClone(t *testing.T) {
	settled := func(int) int64 { return 0 }
	const end = 1 + 2*round
	for behind := range end + 1 {
		what := fmt.Sprintf("copied behind %d accesses", behind)
		m, at := row(t, 2, 0, settled)
		f := read.New(6)
		wantSteps(t, m, f, 1, behind, end, at, "the first one, "+what)
		ahead, then := countsOf(m), m.Clone()
		c := f.Clone()
		if got := countsOf(m); got != ahead {
			t.Errorf("0.5: Clone made accesses: %v, not %v", got, ahead)
		}
		// Each of them goes on over a memory as it was then; in turns, so that what they shared would be seen.
		for i := behind + 1; i <= end; i++ {
			wantSteps(t, m, c, i, i, end, at, "the copy, "+what)
			wantSteps(t, then, f, i, i, end, at, "the first one, "+what)
		}
		wantEnd(t, m, c, 57, "the copy, "+what)
		wantEnd(t, then, f, 57, "the first one, "+what)
	}
}

// A copy of a copy, and one whose first one is at its end, are their own, too.
func TestCloneOfAClone(t *testing.T) {
	m := hung(t, 0, 0)
	f := read.New(6)
	wantSteps(t, m, f, 1, 3, 9, nil, "the first one")
	c := f.Clone().Clone()
	wantSteps(t, m, f, 4, 9, 9, turns{4: {12: 1}, 8: {6: 66}}, "the first one")
	m.Write(6, 74)
	// The copy finds all of it done: it turns nothing, and tells what stands there by now.
	wantSteps(t, m, c, 4, 9, 9, nil, "the copy")
	wantEnd(t, m, f, 66, "the first one")
	wantEnd(t, m, c, 74, "the copy")
}
