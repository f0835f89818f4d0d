package view_test

import (
	"fmt"
	"math"
	"math/rand"
	"reflect"
	"slices"
	"strings"
	"testing"

	"ordinate/api"
	"ordinate/mem"
	"ordinate/node"
	"ordinate/ref"
	"ordinate/view"
)

// model tells of a list of cells what view is to tell, by plain means: all places that a tree has are put down first, and asked then.
type model struct {
	cells  []int64
	places []place
	wrong  bool
}

// place is a word of the tree: the slot whose Logic it is (0 of a Target), and the bounds of its keys; above is which place it is below.
type place struct {
	slot   int
	w      int64
	lo, hi int64
	above  int
}

func (x *model) at(a int) int64 {
	if a < 1 || a > len(x.cells) {
		return 0
	}
	return x.cells[a-1]
}

func (x *model) logic(slot int) int64 {
	w := x.at(slot)
	if w < 8 || w >= 8*(api.MaxCells+1) || w%8 != 5 {
		return w
	}
	d := int(w / 8)
	if x.at(d+4) == 1 {
		return x.at(d + 3)
	}
	return x.at(d + 2)
}

func modelOf(m *mem.Mem) *model {
	x := &model{cells: m.Cells()}
	if len(x.cells) < 6 || x.at(1) != 1 || x.at(3) != 0 {
		x.wrong = true
		return x
	}
	x.putSlot(6, math.MinInt64, math.MaxInt64, -1)
	x.wrong = x.wrong || x.isShared()
	return x
}

func (x *model) putSlot(slot int, lo, hi int64, above int) {
	if w := x.at(slot); ref.Kind(w) == ref.Dcss {
		d := ref.At(w)
		x.wrong = x.wrong || d+4 > len(x.cells) || x.at(d+1) != int64(slot)
	}
	x.put(place{slot, x.logic(slot), lo, hi, above})
}

// put puts a place down, and those below it; as there may be no more than cells, this ends.
func (x *model) put(p place) {
	x.places = append(x.places, p)
	if x.wrong || len(x.places) > len(x.cells) {
		x.wrong = true
		return
	}
	me, at := len(x.places)-1, ref.At(p.w)
	n := x.length(p.w)
	if n == 0 || at+n-1 > len(x.cells) {
		x.wrong = true
		return
	}
	switch ref.Kind(p.w) {
	case ref.Leaf:
		x.wrong = x.at(at) < p.lo || x.at(at) > p.hi
	case ref.Rebuild:
		x.wrong = ref.Kind(x.at(at)) != ref.Inner
		x.put(place{0, x.at(at), p.lo, p.hi, me})
	case ref.Inner:
		d := int(x.at(at))
		// The bounds of the children are lo, the keys and, were there one beyond hi, that one; ahead of each but the first one ends a child.
		from := append([]int64{p.lo}, x.cells[at+4:at+4+d-1]...)
		for i := range from[1:] {
			x.wrong = x.wrong || from[i] >= from[i+1]
		}
		x.wrong = x.wrong || from[d-1] > p.hi || x.at(at+2) < 0 || x.at(at+2) > 1
		for i := range d {
			to := p.hi
			if i+1 < d {
				to = from[i+1] - 1
			}
			if !x.wrong {
				x.putSlot(at+4+d+i, from[i], to, me)
			}
		}
	}
}

// length is how many cells the record of w has; 0, if w may not stand in a tree.
func (x *model) length(w int64) int {
	switch ref.Kind(w) {
	case ref.Empty:
		return 1
	case ref.Leaf:
		return 2
	case ref.Inner:
		if d := x.at(ref.At(w)); 2 <= d && d <= int64(len(x.cells)) {
			return 4 + 2*int(d)
		}
	case ref.Rebuild:
		return 5
	}
	return 0
}

func (x *model) isShared() bool {
	owners := map[int]int{1: 1, 2: 1, 3: 1, 4: 1, 5: 1, 6: 1}
	for _, p := range x.places {
		for i := range x.length(p.w) {
			owners[ref.At(p.w)+i]++
		}
	}
	for _, n := range owners {
		if n > 1 {
			return true
		}
	}
	return false
}

// find is which place has the word, -1 if none does.
func (x *model) find(w int64) int {
	if x.wrong {
		return -1
	}
	return slices.IndexFunc(x.places, func(p place) bool { return p.w == w })
}

// isBelow: is the place i the place j, or below it?
func (x *model) isBelow(i, j int) bool {
	for i > j {
		i = x.places[i].above
	}
	return i == j
}

func (x *model) content(w int64) []api.Pair {
	j := x.find(w)
	var l []api.Pair
	for i, p := range x.places {
		if j >= 0 && x.isBelow(i, j) && ref.Kind(p.w) == ref.Leaf {
			l = append(l, api.Pair{Key: x.at(ref.At(p.w)), Value: x.at(ref.At(p.w) + 1)})
		}
	}
	return l
}

func (x *model) depth(w int64) int {
	j, most := x.find(w), 0
	for i := range x.places {
		if j < 0 || !x.isBelow(i, j) {
			continue
		}
		n := 0
		for a := i; a >= j; a = x.places[a].above {
			if ref.Kind(x.places[a].w) == ref.Inner {
				n++
			}
		}
		most = max(most, n)
	}
	return most
}

// ideal: is what is below w written as the ideal tree over its keys is?
func (x *model) ideal(w int64) bool {
	return x.find(w) >= 0 && x.text(w) == idealText(x.content(w))
}

func (x *model) text(w int64) string {
	at := ref.At(w)
	switch ref.Kind(w) {
	case ref.Empty:
		return "-"
	case ref.Leaf:
		return fmt.Sprint(x.at(at), ":", x.at(at+1))
	case ref.Inner:
		d := int(x.at(at))
		var b strings.Builder
		fmt.Fprint(&b, "(", x.cells[at-1:at+4+d-1])
		for i := range d {
			b.WriteString(" " + x.text(x.at(at+4+d+i)))
		}
		return b.String() + ")"
	}
	return "?"
}

// idealText is how the ideal tree over the pairs is written.
func idealText(l []api.Pair) string {
	n := len(l)
	switch n {
	case 0:
		return "-"
	case 1:
		return fmt.Sprint(l[0].Key, ":", l[0].Value)
	}
	d := max(2, int(math.Sqrt(float64(n))))
	head, rest := []int64{int64(d), int64(n), 0, 0, 0}, ""
	for i := range d {
		own := n / d
		if i < n%d {
			own++
		}
		if i > 0 {
			head = append(head, l[0].Key)
		}
		rest += " " + idealText(l[:own])
		l = l[own:]
	}
	return fmt.Sprint("(", head, rest, ")")
}

func (x *model) spots() []api.Spot {
	var l []api.Spot
	for _, p := range x.places {
		if !x.wrong && p.slot > 0 {
			l = append(l, api.Spot{Slot: p.slot, Word: p.w})
		}
	}
	return l
}

func (x *model) calm() bool {
	for _, p := range x.places {
		at := ref.At(p.w)
		switch {
		case p.slot > 0 && ref.Kind(x.at(p.slot)) == ref.Dcss, ref.Kind(p.w) == ref.Rebuild:
			return false
		case ref.Kind(p.w) == ref.Inner:
			limit := int64(0)
			if size := x.at(at + 1); 0 <= size && size <= api.MaxKeys {
				limit = size/4 + 2
			}
			if x.at(at+2) == 1 || x.at(at+3) >= limit {
				return false
			}
		}
	}
	return !x.wrong
}

func (x *model) told() told {
	return told{!x.wrong, x.calm(), x.spots(), x.content(x.logic(node.Root))}
}

// wantModel holds all that view tells of a memory against the model.
func wantModel(t *testing.T, m *mem.Mem) told {
	t.Helper()
	x := modelOf(m)
	want, got := x.told(), tellAll(m)
	if !reflect.DeepEqual(got, want) {
		t.Fatalf("9: Sound, Calm, Spots, Leaves are %v, not %v, of %v", got, want, x.cells)
	}
	words := slices.Clone(x.cells)
	for _, p := range x.places {
		words = append(words, p.w)
	}
	for _, w := range words {
		wantWord(t, m, x, w)
	}
	for slot := -1; slot <= len(x.cells)+2; slot++ {
		if got, want := view.Logic(m, slot), x.logic(slot); got != want {
			t.Fatalf("9.1: Logic of %d is %d, not %d, of %v", slot, got, want, x.cells)
		}
	}
	return want
}

func wantWord(t *testing.T, m *mem.Mem, x *model, w int64) {
	t.Helper()
	got := below{view.Content(m, w), view.Depth(m, w), view.Ideal(m, w)}
	if want := (below{x.content(w), x.depth(w), x.ideal(w)}); !reflect.DeepEqual(got, want) {
		t.Fatalf("9.3: Content, Depth, Ideal of %d are %v, not %v, of %v", w, got, want, x.cells)
	}
}

// grown lays a tree of any shape with keys from lo to hi, and tells its word.
func grown(b bed, r *rand.Rand, lo, hi int64) int64 {
	b.t.Helper()
	width := hi - lo
	switch kind := r.Intn(8); {
	case kind == 0 || width < 0:
		return b.empty()
	case kind < 3 || width < 4 || b.Size()-b.Used() < 120:
		return b.leaf(lo+r.Int63n(width+1), int64(r.Intn(100)))
	case kind == 3:
		keys := map[int64]bool{}
		for range r.Intn(8) {
			keys[lo+r.Int63n(width+1)] = true
		}
		return b.ideal(pairs(sorted(keys)...)...)
	}
	keys := map[int64]bool{}
	for len(keys) == 0 || r.Intn(2) == 0 {
		keys[lo+1+r.Int63n(width)] = true
	}
	q := sorted(keys)
	var c []int64
	from := lo
	for _, k := range append(q, hi+1) {
		c = append(c, grown(b, r, from, k-1))
		from = k
	}
	w := b.inner(r.Intn(9), q, c...)
	if r.Intn(8) == 0 {
		b.cell(w, node.Shut, 1)
	}
	if r.Intn(4) == 0 {
		b.cell(w, node.Changes, int64(r.Intn(5)))
	}
	return w
}

func sorted(keys map[int64]bool) []int64 {
	var l []int64
	for k := range keys {
		l = append(l, k)
	}
	slices.Sort(l)
	return l
}

// disturb lays a Rebuild or a Dcss in a slot of the tree.
func disturb(b bed, r *rand.Rand) {
	b.t.Helper()
	spots := modelOf(b.Mem).spots()
	if len(spots) == 0 || b.Size()-b.Used() < 20 {
		return
	}
	spot := spots[r.Intn(len(spots))]
	switch stands := b.At(spot.Slot); {
	case ref.Kind(stands) == ref.Dcss:
	case ref.Kind(stands) == ref.Inner && r.Intn(2) == 0:
		b.rebuild(spot.Slot)
	case r.Intn(2) == 0:
		b.dcss(spot.Slot, b.empty(), int64(r.Intn(3)))
	default:
		b.dcss(spot.Slot, spots[r.Intn(len(spots))].Word, int64(r.Intn(3)))
	}
}

// anyNumber is a number as it may stand in a cell.
func anyNumber(r *rand.Rand, used int) int64 {
	switch r.Intn(8) {
	case 0:
		return int64(r.Intn(4)) - 1
	case 1:
		return []int64{least, least + 1, greatest, greatest - 1, 1 << 32, 1 << 40, -1 << 40, 1 << 62}[r.Intn(8)]
	case 2:
		return int64(r.Intn(100)) - 10
	case 3:
		return int64(r.Uint64())
	}
	return int64(8*(1+r.Intn(used+1)) + r.Intn(8))
}

func TestGrownTrees(t *testing.T) {
	r := rand.New(rand.NewSource(9))
	calm, ideal := 0, 0
	for range 400 {
		b := begun(t, 400)
		b.root(grown(b, r, -20, 60))
		want := wantModel(t, b.Mem)
		if !want.sound {
			t.Fatalf("9.2: a grown tree is not sound: %v", b.Cells())
		}
		if want.calm {
			calm++
		}
		if view.Ideal(b.Mem, b.At(node.Root)) {
			ideal++
		}
		for range r.Intn(4) {
			disturb(b, r)
			wantModel(t, b.Mem)
		}
	}
	if calm < 100 || ideal < 40 {
		t.Errorf("of 400 grown trees %d are calm, %d ideal: the test is a weak one", calm, ideal)
	}
}

// Trees of which some cells hold something else.
func TestTurnedTrees(t *testing.T) {
	r := rand.New(rand.NewSource(99))
	sound := 0
	for range 6000 {
		b := begun(t, 200)
		b.root(grown(b, r, -20, 60))
		for range r.Intn(3) {
			disturb(b, r)
		}
		for range 1 + r.Intn(2) {
			b.Write(1+r.Intn(b.Used()), anyNumber(r, b.Used()))
		}
		if wantModel(t, b.Mem).sound {
			sound++
		}
	}
	if sound < 600 || sound > 5400 {
		t.Errorf("of 6000 turned trees %d are sound: the test is a weak one", sound)
	}
}

// Each cell of some trees, turned by a little, or to the word of a neighbour.
func TestEachCellTurned(t *testing.T) {
	r := rand.New(rand.NewSource(999))
	for range 12 {
		b := begun(t, 150)
		b.root(grown(b, r, 0, 30))
		disturb(b, r)
		for a := 1; a <= min(b.Used(), 90); a++ {
			was := b.At(a)
			for _, x := range []int64{was - 8, was - 2, was - 1, was + 1, was + 2, was + 8, was + 16, 0, 1, 2, least, greatest} {
				b.Write(a, x)
				wantModel(t, b.Mem)
			}
			b.Write(a, was)
		}
	}
}

// A memory of any numbers at all: no call panics, each one ends.
func TestAnyMemory(t *testing.T) {
	r := rand.New(rand.NewSource(9999))
	for range 20000 {
		m := fresh(t, 60)
		cells := make([]int64, r.Intn(61))
		for i := range cells {
			cells[i] = anyNumber(r, len(cells))
		}
		// Most of them begin as a tree does, else no more than these cells would be looked at.
		if len(cells) > 6 && r.Intn(4) > 0 {
			cells[0], cells[2] = 1, 0
			cells[5] = int64(8*(7+r.Intn(len(cells)-6)) + 1 + r.Intn(5))
		}
		m.Make(cells)
		wantModel(t, m)
		for _, w := range []int64{0, -1, 57, least, greatest, anyNumber(r, len(cells))} {
			wantWord(t, m, modelOf(m), w)
		}
	}
}

// All memories of eight cells behind Base that hold few numbers: an Inner, perhaps, and what it may lead to.
func TestSmallMemories(t *testing.T) {
	words := []int64{57, 58, 59, 65, 66, 67, 68, 105, 106, 113, 114, 121, 122}
	for _, degree := range []int64{1, 2, 3} {
		for _, first := range words {
			for _, second := range words {
				for root := 57; root <= 61; root++ {
					m := fresh(t, 16)
					m.Make([]int64{1, 0, 0, 0, 0, int64(root), degree, 2, 0, 0, 0, 7, first, second, 5, 9})
					wantModel(t, m)
				}
			}
		}
	}
}
