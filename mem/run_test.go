package mem_test

import "testing"

// smallCalls is calls that are made in all orders on few cells.
func smallCalls() []func(b *both) {
	return []func(b *both){
		func(b *both) { b.makeCells(5) },
		func(b *both) { b.makeCells(6, 0) },
		func(b *both) { b.makeCells() },
		func(b *both) { b.read(1) },
		func(b *both) { b.read(3) },
		func(b *both) { b.write(2, 5) },
		func(b *both) { b.cas(1, 5, 6) },
		func(b *both) { b.cas(2, 0, 5) },
		func(b *both) { b.add(1, 1) },
		func(b *both) { b.add(3, -1) },
	}
}

func TestAllOrdersOfFewCalls(t *testing.T) {
	calls := smallCalls()
	var goOn func(b *both, more int)
	goOn = func(b *both, more int) {
		if more == 0 || t.Failed() {
			return
		}
		for _, call := range calls {
			next := b.clone()
			call(next)
			next.wantAlike()
			goOn(next, more-1)
		}
		// All that its clones have done is nothing to this one.
		b.wantAlike()
	}
	for size := 1; size <= 4; size++ {
		goOn(freshBoth(t, size), 4)
	}
}

// The same orders without a clone between: each one on a memory of its own.
func TestAllOrdersWithoutClones(t *testing.T) {
	calls := smallCalls()
	for order := range 10000 {
		b := freshBoth(t, 3)
		for rest := order; ; rest /= 10 {
			calls[rest%10](b)
			b.wantAlike()
			if rest < 10 {
				break
			}
		}
		if t.Failed() {
			return
		}
	}
}

// source tells numbers by a fixed rule: any would do, these are the same each time.
type source uint64

func (s *source) below(n int) int {
	*s = *s*6364136223846793005 + 1442695040888963407
	return int(*s >> 33 % source(n))
}

// word is a number of any length, but small ones come often, so that a Cas meets its old.
func (s *source) word() int64 {
	if s.below(4) > 0 {
		return int64(s.below(3)) - 1
	}
	return int64(s.below(1<<30)+1<<33) << s.below(34) * int64(1-2*s.below(2))
}

// step makes one call, most often near the used cells.
func (s *source) step(b *both, longest int) {
	a := s.below(len(b.o.held)+4) - 1
	switch s.below(9) {
	case 0:
		w := make([]int64, s.below(longest+1))
		for i := range w {
			w[i] = s.word()
		}
		b.makeCells(w...)
	case 1, 2:
		b.read(a)
	case 3, 4:
		b.write(a, s.word())
	case 5:
		b.cas(a, s.word(), s.word())
	case 6:
		b.cas(a, b.o.held[a], s.word())
	default:
		b.add(a, s.word())
	}
}

func TestLongRunsOnFewCells(t *testing.T) {
	s := source(1)
	for size := 1; size <= 20; size++ {
		b := freshBoth(t, size)
		for range 400 {
			s.step(b, 3)
			b.wantAlike()
		}
		if t.Failed() {
			return
		}
	}
}

func TestLongRunsOnHundredsOfCells(t *testing.T) {
	s := source(2)
	for _, size := range []int{100, 255, 256, 257, 700} {
		b := freshBoth(t, size)
		for range 2500 {
			s.step(b, 12)
			b.wantAlike()
		}
		if t.Failed() {
			return
		}
	}
}

// In the middle of a run each memory may be cloned; all of them go on, each its own way.
func TestLongRunsOfClones(t *testing.T) {
	s := source(3)
	for _, size := range []int{6, 40, 300} {
		all := []*both{freshBoth(t, size)}
		for round := range 3000 {
			b := all[s.below(len(all))]
			s.step(b, 8)
			b.wantAlike()
			if round%200 == 0 {
				all = append(all, b.clone())
			}
			if round%50 == 0 {
				for _, other := range all {
					other.wantAlike()
				}
			}
		}
		if t.Failed() {
			return
		}
	}
}

// What is told hangs on the calls that were made on this memory, on nothing else: the same calls tell the same again.
func TestTheSameCallsTellTheSame(t *testing.T) {
	for range 3 {
		s := source(4)
		b := freshBoth(t, 64)
		for range 500 {
			s.step(b, 5)
		}
		b.wantAlike()
		m := b.m
		for range 3 {
			wantCells(t, m, m.Cells()...)
			wantCounts(t, m, 500, b.o.odd, b.o.refused)
		}
	}
}
