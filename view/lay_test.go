package view_test

import (
	"math"
	"slices"
	"testing"

	"ordinate/api"
	"ordinate/mem"
	"ordinate/node"
	"ordinate/part"
	"ordinate/ref"
	"ordinate/view"
)

const (
	least    = math.MinInt64
	greatest = math.MaxInt64
)

func fresh(t *testing.T, size int) *mem.Mem {
	t.Helper()
	m, why := mem.New(size)
	if why != api.OK {
		t.Fatalf("7.1: New(%d) tells %d", size, why)
	}
	return m
}

// bed is a memory in which records are laid by hand, each told by its word.
type bed struct {
	*mem.Mem
	t *testing.T
}

// begun is a memory behind Begin: at Root stands 57, the word of an Empty.
func begun(t *testing.T, size int) bed {
	t.Helper()
	m := fresh(t, size)
	if !node.Begin(m) {
		t.Fatalf("8.3: Begin of %d cells", size)
	}
	return bed{m, t}
}

// lay makes a record and tells its word.
func (b bed) lay(kind int, words ...int64) int64 {
	b.t.Helper()
	at, ok := b.Make(words)
	if !ok {
		b.t.Fatalf("7.2: there is no room for %v", words)
	}
	return ref.Of(kind, at)
}

func (b bed) empty() int64 {
	b.t.Helper()
	return b.lay(ref.Empty, node.EmptyWords()...)
}

func (b bed) leaf(k, v int64) int64 {
	b.t.Helper()
	return b.lay(ref.Leaf, node.LeafWords(k, v)...)
}

// inner lays an Inner with the keys q and as many children as it must have.
func (b bed) inner(size int, q []int64, c ...int64) int64 {
	b.t.Helper()
	return b.lay(ref.Inner, node.InnerWords(size, q, c)...)
}

// rebuild lays a Rebuild of what stands at a slot, and its word there.
func (b bed) rebuild(slot int) int64 {
	b.t.Helper()
	w := b.lay(ref.Rebuild, node.RebuildWords(b.At(slot), 3, slot)...)
	b.Write(slot, w)
	return w
}

// dcss lays a Dcss that turns what stands at a slot to w, and its word there.
func (b bed) dcss(slot int, w, outcome int64) int64 {
	b.t.Helper()
	d := b.lay(ref.Dcss, node.DcssWords(3, slot, b.At(slot), w)...)
	b.Write(ref.At(d)+node.Outcome, outcome)
	b.Write(slot, d)
	return d
}

// root writes a word to Root.
func (b bed) root(w int64) bed {
	b.Write(node.Root, w)
	return b
}

// ideal lays the ideal tree of the pairs.
func (b bed) ideal(l ...api.Pair) int64 {
	b.t.Helper()
	switch n := len(l); n {
	case 0:
		return b.empty()
	case 1:
		return b.leaf(l[0].Key, l[0].Value)
	default:
		var q, c []int64
		for i := range part.Degree(n) {
			own := l[part.From(n, i) : part.From(n, i)+part.Size(n, i)]
			if i > 0 {
				q = append(q, own[0].Key)
			}
			c = append(c, b.ideal(own...))
		}
		return b.inner(n, q, c...)
	}
}

// pairs are those of the keys, each with ten times the key as its value.
func pairs(keys ...int64) []api.Pair {
	var l []api.Pair
	for _, k := range keys {
		l = append(l, api.Pair{Key: k, Value: 10 * k})
	}
	return l
}

// rising are n pairs with keys from 1 on.
func rising(n int) []api.Pair {
	var l []api.Pair
	for k := range int64(n) {
		l = append(l, pairs(k+1)...)
	}
	return l
}

// idealOver is a memory with the ideal tree over the pairs.
func idealOver(t *testing.T, l ...api.Pair) bed {
	t.Helper()
	b := begun(t, part.Cells(len(l))+100)
	return b.root(b.ideal(l...))
}

// cell writes x to the cell that is so far behind the record of w.
func (b bed) cell(w int64, place int, x int64) bed {
	b.Write(ref.At(w)+place, x)
	return b
}

// slot is the address of the child i of the Inner w.
func (b bed) slot(w int64, i int) int {
	return node.ChildAt(ref.At(w), int(b.At(ref.At(w)+node.Degree)), i)
}

// child is the Logic of the child i of the Inner w.
func (b bed) child(w int64, i int) int64 {
	return view.Logic(b.Mem, b.slot(w, i))
}

// counts is what a memory tells of its accesses.
type counts struct{ count, odd, refused, used, size int }

func countsOf(m *mem.Mem) counts {
	return counts{m.Count(), m.Odd(), m.Refused(), m.Used(), m.Size()}
}

// told is what all calls of a memory tell but those of a word.
type told struct {
	sound, calm bool
	spots       []api.Spot
	leaves      []api.Pair
}

func tellAll(m *mem.Mem) told {
	return told{view.Sound(m), view.Calm(m), view.Spots(m), collect(m)}
}

// collect is a loop over Leaves that goes to the end.
func collect(m *mem.Mem) []api.Pair {
	var l []api.Pair
	for k, v := range view.Leaves(m) {
		l = append(l, api.Pair{Key: k, Value: v})
	}
	return l
}

// below is what the three calls of a word tell.
type below struct {
	content []api.Pair
	depth   int
	ideal   bool
}

func wantBelow(t *testing.T, m *mem.Mem, w int64, want below) {
	t.Helper()
	got := below{view.Content(m, w), view.Depth(m, w), view.Ideal(m, w)}
	if !slices.Equal(got.content, want.content) {
		t.Errorf("9.3: Content of the word %d is %v, not %v", w, got.content, want.content)
	}
	if got.depth != want.depth {
		t.Errorf("9.3: Depth of the word %d is %d, not %d", w, got.depth, want.depth)
	}
	if got.ideal != want.ideal {
		t.Errorf("9.3: Ideal of the word %d is %t", w, got.ideal)
	}
}

// wantNothing: the word is none of the tree's.
func wantNothing(t *testing.T, m *mem.Mem, w int64) {
	t.Helper()
	wantBelow(t, m, w, below{})
}

func wantSpots(t *testing.T, m *mem.Mem, want ...api.Spot) {
	t.Helper()
	if got := view.Spots(m); !slices.Equal(got, want) {
		t.Errorf("9.4: Spots is %v, not %v", got, want)
	}
}

func wantLeaves(t *testing.T, m *mem.Mem, want ...api.Pair) {
	t.Helper()
	if got := collect(m); !slices.Equal(got, want) {
		t.Errorf("9.4: Leaves are %v, not %v", got, want)
	}
}

func wantCalm(t *testing.T, m *mem.Mem, want bool, what string) {
	t.Helper()
	if got := view.Calm(m); got != want {
		t.Errorf("9.4: Calm is %t: %s", got, what)
	}
}

func wantSound(t *testing.T, m *mem.Mem, what string) {
	t.Helper()
	if !view.Sound(m) {
		t.Errorf("9.2: Sound is false: %s", what)
	}
}

// wantUnsound: the memory is not Sound, and each other call tells nothing of it, whatever word of it is asked.
func wantUnsound(t *testing.T, m *mem.Mem, what string) {
	t.Helper()
	if view.Sound(m) {
		t.Errorf("9.2: Sound is true: %s", what)
		return
	}
	if got := tellAll(m); got.calm || len(got.spots) != 0 || len(got.leaves) != 0 {
		t.Errorf("9.3: it is not Sound, and Calm, Spots and Leaves are %t, %v, %v: %s", got.calm, got.spots, got.leaves, what)
	}
	wantNothing(t, m, view.Logic(m, node.Root))
	for at := range min(m.Used(), 60) {
		for kind := ref.Empty; kind <= ref.Dcss; kind++ {
			wantNothing(t, m, ref.Of(kind, at+1))
		}
	}
}
