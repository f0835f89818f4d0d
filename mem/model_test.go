package mem_test

import (
	"slices"
	"testing"

	"ordinate/api"
	"ordinate/mem"
)

// model is a memory by the chapter's words, one cell a map's entry, so that it is built otherwise than the memory itself.
type model struct {
	held                      map[int]int64
	size, count, odd, refused int
}

func (o *model) clone() *model {
	other := *o
	other.held = map[int]int64{}
	for a, x := range o.held {
		other.held[a] = x
	}
	return &other
}

// access counts one at a, and tells what is held there, and whether there is a cell for it.
func (o *model) access(a int) (int64, bool) {
	x, ok := o.held[a]
	o.count++
	if !ok {
		o.odd++
	}
	return x, ok
}

func (o *model) makeCells(w []int64) (int, bool) {
	o.count++
	first := len(o.held) + 1
	if len(w) == 0 || len(o.held)+len(w) > o.size {
		o.refused++
		return 0, false
	}
	for i, x := range w {
		o.held[first+i] = x
	}
	return first, true
}

// both is a memory and its model, which are called alike and held against each other.
type both struct {
	t *testing.T
	m *mem.Mem
	o *model
}

func fresh(t *testing.T, size int) *mem.Mem {
	t.Helper()
	m, why := mem.New(size)
	if m == nil || why != api.OK {
		t.Fatalf("7.1: New(%d) is a memory: %t, and %d", size, m != nil, why)
	}
	return m
}

func freshBoth(t *testing.T, size int) *both {
	t.Helper()
	return &both{t, fresh(t, size), &model{held: map[int]int64{}, size: size}}
}

func (b *both) clone() *both {
	return &both{b.t, b.m.Clone(), b.o.clone()}
}

func (b *both) makeCells(w ...int64) {
	b.t.Helper()
	before := slices.Clone(w)
	at, ok := b.m.Make(w)
	if wantAt, want := b.o.makeCells(before); at != wantAt || ok != want {
		b.t.Errorf("7.2: Make of %d is %d %t, not %d %t", len(w), at, ok, wantAt, want)
	}
	if !slices.Equal(w, before) {
		b.t.Errorf("0.3: Make has changed its list %v to %v", before, w)
	}
}

func (b *both) read(a int) {
	b.t.Helper()
	want, _ := b.o.access(a)
	if got := b.m.Read(a); got != want {
		b.t.Errorf("7.2: Read(%d) is %d, not %d", a, got, want)
	}
}

func (b *both) write(a int, x int64) {
	if _, ok := b.o.access(a); ok {
		b.o.held[a] = x
	}
	b.m.Write(a, x)
}

func (b *both) cas(a int, old, x int64) {
	b.t.Helper()
	held, ok := b.o.access(a)
	want := ok && held == old
	if want {
		b.o.held[a] = x
	}
	if got := b.m.Cas(a, old, x); got != want {
		b.t.Errorf("7.2: Cas(%d, %d, %d) is %t, not %t", a, old, x, got, want)
	}
}

func (b *both) add(a int, d int64) {
	b.t.Helper()
	want, ok := b.o.access(a)
	if ok {
		b.o.held[a] = want + d
	}
	if got := b.m.Add(a, d); got != want {
		b.t.Errorf("7.2: Add(%d, %d) is %d, not %d", a, d, got, want)
	}
}

// wantCounts asks how many there are of everything.
func (b *both) wantCounts() {
	b.t.Helper()
	m, o := b.m, b.o
	if m.Used() != len(o.held) || m.Size() != o.size {
		b.t.Errorf("7.3: %d of %d cells are used, not %d of %d", m.Used(), m.Size(), len(o.held), o.size)
	}
	if m.Count() != o.count || m.Odd() != o.odd || m.Refused() != o.refused {
		b.t.Errorf("7.3: Count, Odd, Refused are %d, %d, %d, not %d, %d, %d", m.Count(), m.Odd(), m.Refused(), o.count, o.odd, o.refused)
	}
}

// wantAlike asks all that is no access, and that it was none.
func (b *both) wantAlike() {
	b.t.Helper()
	b.wantCounts()
	var want []int64
	for a := range len(b.o.held) {
		want = append(want, b.o.held[a+1])
	}
	if got := b.m.Cells(); !slices.Equal(got, want) {
		b.t.Errorf("7.3: Cells is %v, not %v", got, want)
	}
	for a := -1; a <= b.o.size+2; a++ {
		if got := b.m.At(a); got != b.o.held[a] {
			b.t.Errorf("7.3: At(%d) is %d, not %d", a, got, b.o.held[a])
		}
	}
	b.wantCounts()
}
