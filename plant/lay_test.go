package plant_test

import (
	"math"
	"slices"
	"testing"

	"ordinate/api"
	"ordinate/mem"
	"ordinate/node"
	"ordinate/plant"
)

const (
	least    = math.MinInt64
	greatest = math.MaxInt64
)

// mostThatFit is how many pairs there are at most whose ideal tree (65532 cells) has room in the greatest memory.
const mostThatFit = 7430

func fresh(t *testing.T, size int) *mem.Mem {
	t.Helper()
	m, why := mem.New(size)
	if why != api.OK {
		t.Fatalf("7.1: New(%d) tells %d", size, why)
	}
	return m
}

// begun is a memory behind Begin: its first 7 cells are used.
func begun(t *testing.T, size int) *mem.Mem {
	t.Helper()
	m := fresh(t, size)
	if !node.Begin(m) {
		t.Fatalf("8.3: Begin of %d cells", size)
	}
	return m
}

// with is a memory some of whose cells are used, and hold what is no record.
func with(t *testing.T, used, left int) *mem.Mem {
	t.Helper()
	m := fresh(t, used+left)
	for i := range used {
		m.Make([]int64{int64(-1 - i)})
	}
	return m
}

// pairs are those of the keys, each with ten times the key as its value (which may go round).
func pairs(keys ...int64) []api.Pair {
	var l []api.Pair
	for _, k := range keys {
		l = append(l, api.Pair{Key: k, Value: 10 * k})
	}
	return l
}

// rising are n pairs with keys from a first one on, each so much above the one ahead.
func rising(n int, from, by int64) []api.Pair {
	var l []api.Pair
	for i := range int64(n) {
		l = append(l, pairs(from+i*by)...)
	}
	return l
}

// model lays trees in a list of cells, by the words of chapters 1, 5, 8 and 10 alone.
type model struct {
	cells []int64
	makes int
}

// The kinds of words, by their numbers.
const (
	anEmpty = 1
	aLeaf   = 2
	anInner = 3
)

func (p *model) record(kind int64, cells ...int64) int64 {
	at := int64(len(p.cells)) + 1
	p.cells = append(p.cells, cells...)
	p.makes++
	return 8*at + kind
}

func (p *model) lay(l []api.Pair) int64 {
	switch len(l) {
	case 0:
		return p.record(anEmpty, 0)
	case 1:
		return p.record(aLeaf, l[0].Key, l[0].Value)
	}
	degree := 2
	for (degree+1)*(degree+1) <= len(l) {
		degree++
	}
	var q, c []int64
	rest := l
	for left := degree; left > 0; left-- {
		// As even as may be, and rounded up: the longer parts come first.
		size := (len(rest) + left - 1) / left
		if left < degree {
			q = append(q, rest[0].Key)
		}
		c = append(c, p.lay(rest[:size]))
		rest = rest[size:]
	}
	head := []int64{int64(degree), int64(len(l)), 0, 0, 0}
	return p.record(anInner, slices.Concat(head, q, c)...)
}

// counts is what a memory tells of its accesses, and of its cells.
type counts struct{ count, odd, refused, used, size int }

func countsOf(m *mem.Mem) counts {
	return counts{m.Count(), m.Odd(), m.Refused(), m.Used(), m.Size()}
}

// wantLaid builds a tree and holds each cell, the word and the accesses against the model; the word is told.
func wantLaid(t *testing.T, m *mem.Mem, l []api.Pair) int64 {
	t.Helper()
	want := countsOf(m)
	p := model{cells: m.Cells()}
	word := p.lay(l)
	want.count += p.makes
	want.used = len(p.cells)
	w, ok := plant.Build(m, l)
	if w != word || !ok {
		t.Errorf("10.1: Build of %d pairs is %d, %t, not %d", len(l), w, ok, word)
	}
	if got := m.Cells(); !slices.Equal(got, p.cells) {
		t.Errorf("10.1: behind Build of %d pairs cells are %v, not %v", len(l), got, p.cells)
	}
	if got := countsOf(m); got != want {
		t.Errorf("10.1: behind Build of %d pairs Count, Odd, Refused, Used, Size are %v, not %v", len(l), got, want)
	}
	return w
}

// wantNothing: Build tells false, and nothing is done.
func wantNothing(t *testing.T, m *mem.Mem, l []api.Pair, what string) {
	t.Helper()
	ahead, cells := countsOf(m), m.Cells()
	if w, ok := plant.Build(m, l); w != 0 || ok {
		t.Errorf("10.1: Build is %d, %t: %s", w, ok, what)
	}
	if got := m.Cells(); !slices.Equal(got, cells) {
		t.Errorf("10.1: Build told false, and cells are %v, not %v: %s", got, cells, what)
	}
	if got := countsOf(m); got != ahead {
		t.Errorf("10.1: Build told false, and Count, Odd, Refused, Used, Size are %v, not %v: %s", got, ahead, what)
	}
}
