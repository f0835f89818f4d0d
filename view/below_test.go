package view_test

import (
	"testing"

	"ordinate/api"
	"ordinate/node"
	"ordinate/part"
	"ordinate/ref"
	"ordinate/view"
)

// wantIdealBelow asks of w, and of each word below it, what the ideal tree over these pairs is to tell.
func wantIdealBelow(t *testing.T, b bed, w int64, l []api.Pair) {
	t.Helper()
	n := len(l)
	wantBelow(t, b.Mem, w, below{content: l, depth: part.Depth(n), ideal: true})
	for i := range part.Degree(n) {
		from := part.From(n, i)
		wantIdealBelow(t, b, b.child(w, i), l[from:from+part.Size(n, i)])
	}
}

func TestIdealTrees(t *testing.T) {
	for n := range 40 {
		l := rising(n)
		b := idealOver(t, l...)
		wantIdealBelow(t, b, b.At(node.Root), l)
		wantLeaves(t, b.Mem, l...)
		wantCalm(t, b.Mem, true, "an ideal tree")
		if n > 0 {
			// The Empty of Begin is in the memory, but no more in the tree.
			wantNothing(t, b.Mem, 57)
		}
	}
}

func TestKeysAtTheEnds(t *testing.T) {
	for _, l := range [][]api.Pair{
		{{Key: least, Value: 1}}, {{Key: greatest, Value: 2}}, {{Key: least, Value: greatest}, {Key: greatest, Value: least}},
		{{Key: least}, {Key: least + 1}, {Key: 0}, {Key: greatest - 1}, {Key: greatest}},
	} {
		b := idealOver(t, l...)
		wantSound(t, b.Mem, "keys at the ends")
		wantIdealBelow(t, b, b.At(node.Root), l)
		wantLeaves(t, b.Mem, l...)
	}
}

// uneven is a tree that is not ideal: the words of its records, in the order of Spots.
func uneven(t *testing.T) (bed, []int64) {
	t.Helper()
	b := begun(t, 120)
	low := b.inner(2, []int64{2}, b.leaf(1, 10), b.leaf(2, 20))
	mid := b.inner(1, []int64{1, 3}, b.empty(), low, b.leaf(7, 70))
	last := b.leaf(9, 90)
	w := b.inner(4, []int64{8}, mid, last)
	b.root(w)
	return b, []int64{w, mid, b.child(mid, 0), low, b.child(low, 0), b.child(low, 1), b.child(mid, 2), last}
}

func TestATreeThatIsNotIdeal(t *testing.T) {
	b, w := uneven(t)
	wantSound(t, b.Mem, "a tree that is not ideal")
	wantBelow(t, b.Mem, w[0], below{pairs(1, 2, 7, 9), 3, false})
	wantBelow(t, b.Mem, w[1], below{pairs(1, 2, 7), 2, false})
	wantBelow(t, b.Mem, w[2], below{nil, 0, true})
	wantBelow(t, b.Mem, w[3], below{pairs(1, 2), 1, true})
	wantBelow(t, b.Mem, w[4], below{pairs(1), 0, true})
	wantBelow(t, b.Mem, w[5], below{pairs(2), 0, true})
	wantBelow(t, b.Mem, w[6], below{pairs(7), 0, true})
	wantBelow(t, b.Mem, w[7], below{pairs(9), 0, true})
}

// The deepest child may be any one.
func TestDepthOfAnyChild(t *testing.T) {
	for i := range 3 {
		b := begun(t, 120)
		keys := []int64{10, 20}
		c := []int64{b.leaf(5, 0), b.leaf(15, 0), b.leaf(25, 0)}
		low := b.inner(0, []int64{int64(10*i + 7)}, b.empty(), b.empty())
		c[i] = b.inner(0, []int64{int64(10*i + 6)}, b.empty(), low)
		b.root(b.inner(0, keys, c...))
		for w, want := range map[int64]int{b.At(node.Root): 3, c[i]: 2, low: 1} {
			if got := view.Depth(b.Mem, w); got != want {
				t.Errorf("9.3: Depth is %d, not %d, the child %d being the deepest", got, want, i)
			}
		}
	}
}

func TestWordsThatAreNotInTheTree(t *testing.T) {
	b, in := uneven(t)
	b.leaf(5, 50)
	b.inner(2, []int64{3}, b.empty(), b.empty())
	// What was in the tree is no more in it, when something else stands in its slot.
	gone := in[7]
	b.Write(b.slot(in[0], 1), b.leaf(8, 80))
	words := []int64{0, 1, 5, 7, 8, -1, -8, least, greatest, 57, gone, ref.Of(ref.Inner, node.Base), ref.Of(ref.Empty, api.MaxCells), in[0] + 1<<32, -in[0]}
	for at := 1; at <= b.Used()+2; at++ {
		for kind := range 8 {
			words = append(words, int64(8*at+kind))
		}
	}
	is := map[int64]bool{}
	for _, s := range view.Spots(b.Mem) {
		is[s.Word] = true
	}
	if len(is) != 8 || is[gone] {
		t.Fatalf("9.4: there are %d words in the tree", len(is))
	}
	for _, w := range words {
		if !is[w] {
			wantNothing(t, b.Mem, w)
		}
	}
}

// A Rebuild stands for its Target, whose own word may be asked, too.
func TestARebuildInATree(t *testing.T) {
	b, w := uneven(t)
	r := b.rebuild(b.slot(w[1], 1))
	wantSound(t, b.Mem, "a Rebuild in a slot")
	wantBelow(t, b.Mem, w[0], below{pairs(1, 2, 7, 9), 3, false})
	wantBelow(t, b.Mem, w[1], below{pairs(1, 2, 7), 2, false})
	wantBelow(t, b.Mem, r, below{pairs(1, 2), 1, false})
	wantBelow(t, b.Mem, w[3], below{pairs(1, 2), 1, true})
	wantBelow(t, b.Mem, w[4], below{pairs(1), 0, true})
	wantCalm(t, b.Mem, false, "a Rebuild in a slot")
	wantLeaves(t, b.Mem, pairs(1, 2, 7, 9)...)
	top := b.rebuild(node.Root)
	wantBelow(t, b.Mem, top, below{pairs(1, 2, 7, 9), 3, false})
	wantBelow(t, b.Mem, w[0], below{pairs(1, 2, 7, 9), 3, false})
	wantBelow(t, b.Mem, r, below{pairs(1, 2), 1, false})
	wantLeaves(t, b.Mem, pairs(1, 2, 7, 9)...)
	// The new tree is not in the tree yet.
	b.cell(top, node.Top, b.ideal(pairs(1, 2, 7, 9)...))
	wantNothing(t, b.Mem, b.At(ref.At(top)+node.Top))
}

func TestARebuildAtRoot(t *testing.T) {
	for n := 2; n < 20; n++ {
		b := idealOver(t, rising(n)...)
		w := b.At(node.Root)
		r := b.rebuild(node.Root)
		wantBelow(t, b.Mem, r, below{content: rising(n), depth: part.Depth(n)})
		wantIdealBelow(t, b, w, rising(n))
		wantCalm(t, b.Mem, false, "a Rebuild at Root")
	}
}

// Of a Dcss the word counts that its slot stands for; a word is asked for by itself, whatever stands in its slot.
func TestADcssInATree(t *testing.T) {
	for _, outcome := range []int64{0, 1, 2} {
		b := idealOver(t, rising(3)...)
		w := b.At(node.Root)
		old, other := b.child(w, 1), b.leaf(3, 33)
		d := b.dcss(b.slot(w, 1), other, outcome)
		in, out, last := old, other, int64(30)
		if outcome == 1 {
			in, out, last = other, old, 33
		}
		l := append(pairs(1, 2), api.Pair{Key: 3, Value: last})
		wantBelow(t, b.Mem, w, below{l, 2, false})
		wantBelow(t, b.Mem, in, below{l[2:], 0, true})
		wantBelow(t, b.Mem, b.child(w, 0), below{l[:2], 1, true})
		wantNothing(t, b.Mem, out)
		wantNothing(t, b.Mem, d)
		wantLeaves(t, b.Mem, l...)
	}
}

// A Dcss that lays a Rebuild, and one that takes it away.
func TestADcssWithARebuild(t *testing.T) {
	b := idealOver(t, rising(4)...)
	w := b.At(node.Root)
	r := b.lay(ref.Rebuild, node.RebuildWords(w, 3, node.Root)...)
	d := b.dcss(node.Root, r, 0)
	wantSpots(t, b.Mem, spotsFrom(b, node.Root)...)
	wantNothing(t, b.Mem, r)
	wantBelow(t, b.Mem, w, below{rising(4), 2, true})
	b.cell(d, node.Outcome, 1)
	wantBelow(t, b.Mem, r, below{rising(4), 2, false})
	wantBelow(t, b.Mem, w, below{rising(4), 2, true})
	b.root(r)
	other := b.ideal(rising(4)...)
	d = b.dcss(node.Root, other, 0)
	wantBelow(t, b.Mem, r, below{rising(4), 2, false})
	wantBelow(t, b.Mem, w, below{rising(4), 2, true})
	wantNothing(t, b.Mem, other)
	b.cell(d, node.Outcome, 1)
	wantNothing(t, b.Mem, r)
	wantNothing(t, b.Mem, w)
	wantIdealBelow(t, b, other, rising(4))
}

// Each thing that 9.3 names may be what is not ideal.
func TestWhatIsNotIdeal(t *testing.T) {
	turns := map[string]func(b bed, w int64){
		"Size is less":       func(b bed, w int64) { b.cell(w, node.Size, b.At(ref.At(w)+node.Size)-1) },
		"Size is more":       func(b bed, w int64) { b.cell(w, node.Size, b.At(ref.At(w)+node.Size)+1) },
		"Size is 0":          func(b bed, w int64) { b.cell(w, node.Size, 0) },
		"Size is much more":  func(b bed, w int64) { b.cell(w, node.Size, b.At(ref.At(w)+node.Size)+1<<32) },
		"it is shut":         func(b bed, w int64) { b.cell(w, node.Shut, 1) },
		"Changes is 1":       func(b bed, w int64) { b.cell(w, node.Changes, 1) },
		"Changes is below 0": func(b bed, w int64) { b.cell(w, node.Changes, -1) },
		"Changes is great":   func(b bed, w int64) { b.cell(w, node.Changes, greatest) },
		"Sum is set":         func(b bed, w int64) { b.cell(w, node.Sum, b.At(ref.At(w)+node.Size)+1) },
		"Sum is below 0":     func(b bed, w int64) { b.cell(w, node.Sum, least) },
		"the key 1 is less": func(b bed, w int64) {
			at := node.KeyAt(ref.At(w), 1)
			b.Write(at, b.At(at)-1)
		},
		"the last key is less": func(b bed, w int64) {
			at := node.KeyAt(ref.At(w), int(b.At(ref.At(w)))-1)
			b.Write(at, b.At(at)-1)
		},
		"its last child is an Empty":  func(b bed, w int64) { b.Write(b.slot(w, int(b.At(ref.At(w)))-1), b.empty()) },
		"its first child is an Empty": func(b bed, w int64) { b.Write(b.slot(w, 0), b.empty()) },
		"a Dcss's word that comes to the same": func(b bed, w int64) {
			b.dcss(b.slot(w, 0), b.child(w, 0), 1)
		},
		"a Dcss's word that hasn't come out": func(b bed, w int64) {
			b.dcss(b.slot(w, 1), b.empty(), 0)
		},
	}
	for what, turn := range turns {
		for _, n := range []int{2, 3, 5, 9, 16, 30} {
			l := every(n, 4)
			b := idealOver(t, l...)
			wantTurned(t, b, b.At(node.Root), what, turn)
			// Further below: the tree above is not ideal any more, either.
			b = idealOver(t, l...)
			w := b.At(node.Root)
			if low := b.child(w, 0); ref.Kind(low) == ref.Inner {
				wantTurned(t, b, low, what, turn)
				if view.Ideal(b.Mem, w) {
					t.Errorf("9.3: Ideal is true of %d keys, and further below: %s", n, what)
				}
			}
		}
	}
}

// every is n pairs with keys that are so far apart that one less, or more, is still between them.
func every(n int, step int64) []api.Pair {
	var l []api.Pair
	for i := range int64(n) {
		l = append(l, pairs(step*(i+1))...)
	}
	return l
}

func wantTurned(t *testing.T, b bed, w int64, what string, turn func(bed, int64)) {
	t.Helper()
	if !view.Ideal(b.Mem, w) {
		t.Errorf("9.3: Ideal of an ideal tree is false")
	}
	turn(b, w)
	wantSound(t, b.Mem, what)
	if view.Ideal(b.Mem, w) {
		t.Errorf("9.3: Ideal is true: %s", what)
	}
}

func TestShapesThatAreNotIdeal(t *testing.T) {
	leaves := func(b bed, keys ...int64) []int64 {
		var c []int64
		for _, k := range keys {
			c = append(c, b.leaf(k, 10*k))
		}
		return c
	}
	shapes := map[string]func(b bed) int64{
		"three Leaves below one Inner": func(b bed) int64 { return b.inner(3, []int64{2, 3}, leaves(b, 1, 2, 3)...) },
		"the greater part last": func(b bed) int64 {
			return b.inner(3, []int64{2}, b.leaf(1, 10), b.ideal(pairs(2, 3)...))
		},
		"one key below an Inner": func(b bed) int64 { return b.inner(1, []int64{1}, b.empty(), b.leaf(1, 10)) },
		"no key below an Inner":  func(b bed) int64 { return b.inner(0, []int64{1}, b.empty(), b.empty()) },
		"two keys and an Empty":  func(b bed) int64 { return b.inner(2, []int64{2, 5}, b.leaf(1, 10), b.leaf(2, 20), b.empty()) },
		"an Empty behind all parts": func(b bed) int64 {
			return b.inner(4, []int64{3, 5}, b.ideal(pairs(1, 2)...), b.ideal(pairs(3, 4)...), b.empty())
		},
		"an Empty ahead of all parts": func(b bed) int64 {
			return b.inner(4, []int64{1, 3}, b.empty(), b.ideal(pairs(1, 2)...), b.ideal(pairs(3, 4)...))
		},
		"parts of 3 and 1 keys": func(b bed) int64 {
			return b.inner(4, []int64{4}, b.ideal(pairs(1, 2, 3)...), b.leaf(4, 40))
		},
		"an Empty too many below a part": func(b bed) int64 {
			return b.inner(3, []int64{3}, b.inner(2, []int64{1, 2}, b.empty(), b.leaf(1, 10), b.leaf(2, 20)), b.leaf(3, 30))
		},
		"nine keys in two parts": func(b bed) int64 {
			return b.inner(9, []int64{6}, b.ideal(pairs(1, 2, 3, 4, 5)...), b.ideal(pairs(6, 7, 8, 9)...))
		},
		"nine keys in three parts of 4, 3 and 2": func(b bed) int64 {
			return b.inner(9, []int64{5, 8}, b.ideal(pairs(1, 2, 3, 4)...), b.ideal(pairs(5, 6, 7)...), b.ideal(pairs(8, 9)...))
		},
		"a part that is a Leaf though it has an Inner below it elsewhere": func(b bed) int64 {
			return b.inner(3, []int64{2}, b.leaf(1, 10), b.inner(2, []int64{3}, b.leaf(2, 20), b.leaf(3, 30)))
		},
	}
	for what, shape := range shapes {
		b := begun(t, 200)
		w := shape(b)
		wantSound(t, b.root(w).Mem, what)
		if view.Ideal(b.Mem, w) {
			t.Errorf("9.3: Ideal is true: %s", what)
		}
		// What is below each child may still be ideal, and is what is told of it.
		if got := view.Content(b.Mem, w); len(got) > 0 && got[0] != pairs(1)[0] {
			t.Errorf("9.3: Content is %v: %s", got, what)
		}
	}
}

// A Rebuild anywhere below, or at w itself, is not ideal; its Target may be.
func TestARebuildIsNotIdeal(t *testing.T) {
	b := idealOver(t, rising(16)...)
	w := b.At(node.Root)
	for i := range 4 {
		c := bed{b.Clone(), t}
		low := c.child(w, i)
		r := c.rebuild(c.slot(w, i))
		for x, want := range map[int64]bool{w: false, r: false, low: true} {
			if got := view.Ideal(c.Mem, x); got != want {
				t.Errorf("9.3: Ideal of the word %d is %t, a Rebuild being the child %d", x, got, i)
			}
		}
	}
}

// Of a memory that is not Sound, the words below its sound records are none, too.
func TestWordsOfAMemoryThatIsNotSound(t *testing.T) {
	b, w := uneven(t)
	b.cell(w[7], node.Key, 7)
	for _, x := range w {
		wantNothing(t, b.Mem, x)
	}
	wantUnsound(t, b.Mem, "a Leaf below its bounds")
	b.cell(w[7], node.Key, 9)
	wantBelow(t, b.Mem, w[1], below{pairs(1, 2, 7), 2, false})
	b.Write(node.Base+node.Shut, 1)
	for _, x := range w {
		wantNothing(t, b.Mem, x)
	}
}

// spotsFrom is what Spots is to tell from a slot on, gone through by hand.
func spotsFrom(b bed, slot int) []api.Spot {
	w := view.Logic(b.Mem, slot)
	l := []api.Spot{{Slot: slot, Word: w}}
	if ref.Kind(w) == ref.Rebuild {
		w = b.At(ref.At(w) + node.Target)
	}
	if ref.Kind(w) == ref.Inner {
		for i := range int(b.At(ref.At(w) + node.Degree)) {
			l = append(l, spotsFrom(b, b.slot(w, i))...)
		}
	}
	return l
}
