package node_test

import (
	"math"
	"slices"
	"testing"

	"ordinate/mem"
	"ordinate/node"
)

const (
	least = math.MinInt64
	most  = math.MaxInt64
	far   = 1 << 40
)

// The constants have no type: they serve as a part of an address and of a word.
var (
	_ int   = node.Root
	_ int64 = node.Root
	_ int   = node.Outcome
	_ int64 = node.Outcome
)

// oddWords is keys, values and words at the ends of what there is, and some between.
func oddWords() []int64 {
	return []int64{least, least + 1, -1 << 40, -1, 0, 1, 26, 1 << 32, most - 1, most}
}

// oddInts is the same of sizes and addresses.
func oddInts() []int {
	return []int{math.MinInt, math.MinInt + 1, -far, -1, 0, 1, 6, far, far + 1, math.MaxInt - 1, math.MaxInt}
}

// rising is n numbers from first on, each step more than the one ahead.
func rising(n int, first, step int64) []int64 {
	var l []int64
	for i := range n {
		l = append(l, first+int64(i)*step)
	}
	return l
}

func fresh(t *testing.T, size int) *mem.Mem {
	t.Helper()
	m, why := mem.New(size)
	if m == nil {
		t.Fatalf("7.1: New(%d) tells %d", size, why)
	}
	return m
}

func wantWords(t *testing.T, name string, got []int64, want ...int64) {
	t.Helper()
	if !slices.Equal(got, want) {
		t.Errorf("8.2: %s is %v, not %v", name, got, want)
	}
}

func wantKeyAt(t *testing.T, n, i, want int) {
	t.Helper()
	if got := node.KeyAt(n, i); got != want {
		t.Errorf("8.2: KeyAt(%d, %d) is %d, not %d", n, i, got, want)
	}
}

func wantChildAt(t *testing.T, n, d, i, want int) {
	t.Helper()
	if got := node.ChildAt(n, d, i); got != want {
		t.Errorf("8.2: ChildAt(%d, %d, %d) is %d, not %d", n, d, i, got, want)
	}
}

func TestConstants(t *testing.T) {
	for _, x := range []struct {
		name      string
		got, want int
	}{
		{"Base", node.Base, 1}, {"Root", node.Root, 6}, {"First", node.First, 7},
		{"Degree", node.Degree, 0}, {"Size", node.Size, 1}, {"Shut", node.Shut, 2}, {"Changes", node.Changes, 3}, {"Sum", node.Sum, 4},
		{"Key", node.Key, 0}, {"Value", node.Value, 1},
		{"Target", node.Target, 0}, {"Gate", node.Gate, 1}, {"Slot", node.Slot, 2}, {"Top", node.Top, 3}, {"Next", node.Next, 4},
		{"Guard", node.Guard, 0}, {"Place", node.Place, 1}, {"Old", node.Old, 2}, {"New", node.New, 3}, {"Outcome", node.Outcome, 4},
	} {
		if x.got != x.want {
			t.Errorf("8.1: %s is %d, not %d", x.name, x.got, x.want)
		}
	}
}

func TestChapterExamples(t *testing.T) {
	wantWords(t, "InnerWords", node.InnerWords(2, []int64{7}, []int64{18, 26}), 2, 2, 0, 0, 0, 7, 18, 26)
	wantKeyAt(t, 10, 1, 15)
	wantChildAt(t, 10, 2, 1, 17)
	wantWords(t, "RebuildWords", node.RebuildWords(83, 3, 6), 83, 3, 6, 0, 0)
	m := fresh(t, 7)
	if !node.Begin(m) {
		t.Errorf("8.3: Begin of 7 cells is false")
	}
	wantWords(t, "Cells behind Begin", m.Cells(), 1, 0, 0, 0, 0, 57, 0)
}

func TestLeafWords(t *testing.T) {
	for _, k := range oddWords() {
		for _, v := range oddWords() {
			w := node.LeafWords(k, v)
			wantWords(t, "LeafWords", w, k, v)
			if len(w) == 2 && (w[node.Key] != k || w[node.Value] != v) {
				t.Errorf("8.1: of LeafWords(%d, %d) Key is %d, Value %d", k, v, w[node.Key], w[node.Value])
			}
		}
	}
}

func TestEmptyWords(t *testing.T) {
	wantWords(t, "EmptyWords", node.EmptyWords(), 0)
	// As one cell it may be made: a Make of none would be refused.
	m := fresh(t, 1)
	if at, ok := m.Make(node.EmptyWords()); at != 1 || !ok {
		t.Errorf("8.1: an Empty is made at %d: %t", at, ok)
	}
}

func TestRebuildWords(t *testing.T) {
	for _, target := range oddWords() {
		for _, gate := range oddInts() {
			for _, slot := range oddInts() {
				w := node.RebuildWords(target, gate, slot)
				wantWords(t, "RebuildWords", w, target, int64(gate), int64(slot), 0, 0)
			}
		}
	}
	w := node.RebuildWords(83, 12, 15)
	if w[node.Target] != 83 || w[node.Gate] != 12 || w[node.Slot] != 15 || w[node.Top] != 0 || w[node.Next] != 0 {
		t.Errorf("8.1: the cells of a Rebuild stand at other places: %v", w)
	}
}

func TestDcssWords(t *testing.T) {
	for _, guard := range oddInts() {
		for _, place := range oddInts() {
			for _, old := range oddWords() {
				for _, new := range oddWords() {
					w := node.DcssWords(guard, place, old, new)
					wantWords(t, "DcssWords", w, int64(guard), int64(place), old, new, 0)
				}
			}
		}
	}
	w := node.DcssWords(3, 6, 57, 66)
	if w[node.Guard] != 3 || w[node.Place] != 6 || w[node.Old] != 57 || w[node.New] != 66 || w[node.Outcome] != 0 {
		t.Errorf("8.1: the cells of a Dcss stand at other places: %v", w)
	}
}

// innerCells is the chapter's sentence once more, in numbers.
func innerCells(size int, q, c []int64) []int64 {
	w := []int64{int64(len(c)), int64(size), 0, 0, 0}
	for _, k := range q {
		w = append(w, k)
	}
	for _, child := range c {
		w = append(w, child)
	}
	return w
}

func TestInnerWordsOfManyDegrees(t *testing.T) {
	for _, degree := range []int{1, 2, 3, 4, 7, 16, 127, 128, 129, 300, 777} {
		q, c := rising(degree-1, -50, 3), rising(degree, 10, 8)
		w := node.InnerWords(5*degree, q, c)
		wantWords(t, "InnerWords", w, innerCells(5*degree, q, c)...)
		if len(w) != 4+2*degree {
			t.Fatalf("8.2: an Inner of degree %d has %d cells", degree, len(w))
		}
		if w[node.Degree] != int64(degree) || w[node.Size] != int64(5*degree) || w[node.Shut] != 0 || w[node.Changes] != 0 || w[node.Sum] != 0 {
			t.Errorf("8.1: the cells of an Inner stand at other places: %v", w[:5])
		}
	}
}

func TestInnerWordsOfDegreeOne(t *testing.T) {
	for _, q := range [][]int64{nil, {}, make([]int64, 0, 9)} {
		wantWords(t, "InnerWords without keys", node.InnerWords(0, q, []int64{57}), 1, 0, 0, 0, 0, 57)
	}
}

// Size is what was handed in, whatever that is: the keys that there were are not those that part the children.
func TestInnerWordsOfAnySize(t *testing.T) {
	for _, size := range append(oddInts(), 2, 3, 1000) {
		wantWords(t, "InnerWords", node.InnerWords(size, nil, []int64{9}), 1, int64(size), 0, 0, 0, 9)
		wantWords(t, "InnerWords", node.InnerWords(size, []int64{7}, []int64{18, 26}), 2, int64(size), 0, 0, 0, 7, 18, 26)
	}
}

// Nothing is asked of keys and children: they stand there as they are.
func TestInnerWordsOfAnyWords(t *testing.T) {
	all := oddWords()
	wantWords(t, "InnerWords", node.InnerWords(3, all[1:], all), innerCells(3, all[1:], all)...)
	wantWords(t, "InnerWords", node.InnerWords(3, []int64{most, least}, []int64{least, most, 0}), 3, 3, 0, 0, 0, most, least, least, most, 0)
	wantWords(t, "InnerWords", node.InnerWords(3, []int64{5, 5}, []int64{5, 5, 5}), 3, 3, 0, 0, 0, 5, 5, 5, 5, 5)
}

func TestInnerWordsOfUnlikeLengths(t *testing.T) {
	for keys := range 20 {
		for children := range 20 {
			q, c := rising(keys, 1, 1), rising(children, 10, 8)
			w := node.InnerWords(keys, q, c)
			if children != keys+1 {
				wantWords(t, "InnerWords of lengths that don't fit", w)
				continue
			}
			wantWords(t, "InnerWords", w, innerCells(keys, q, c)...)
		}
	}
	wantWords(t, "InnerWords of nil", node.InnerWords(2, nil, nil))
	wantWords(t, "InnerWords of no child", node.InnerWords(2, []int64{7}, nil))
	wantWords(t, "InnerWords of empty lists", node.InnerWords(0, []int64{}, []int64{}))
	wantWords(t, "InnerWords of too few", node.InnerWords(2, rising(300, 1, 1), rising(300, 10, 8)))
	wantWords(t, "InnerWords of too many", node.InnerWords(2, rising(300, 1, 1), rising(302, 10, 8)))
}

// What KeyAt and ChildAt tell is where the keys and the children of a record stand in a memory.
func TestPlacesInAMemory(t *testing.T) {
	m := fresh(t, 5000)
	for _, degree := range []int{1, 2, 3, 5, 40, 400} {
		m.Make(node.LeafWords(int64(degree), 1))
		q, c := rising(degree-1, 1000, 7), rising(degree, 90000, 8)
		n, ok := m.Make(node.InnerWords(degree, q, c))
		if !ok {
			t.Fatalf("8.2: an Inner of degree %d isn't made", degree)
		}
		m.Make(node.EmptyWords())
		for i, want := range q {
			if got := m.Read(node.KeyAt(n, i+1)); got != want {
				t.Errorf("8.2: the key %d of the Inner of degree %d at %d is %d, not %d", i+1, degree, n, got, want)
			}
		}
		for i, want := range c {
			if got := m.Read(node.ChildAt(n, degree, i)); got != want {
				t.Errorf("8.2: the child %d of the Inner of degree %d at %d is %d, not %d", i, degree, n, got, want)
			}
		}
	}
	if m.Odd() != 0 || m.Refused() != 0 {
		t.Errorf("8.2: %d accesses were odd, %d refused", m.Odd(), m.Refused())
	}
}

func TestPlacesAtTheEdges(t *testing.T) {
	wantKeyAt(t, 0, 0, 4)
	wantKeyAt(t, far, 0, far+4)
	wantKeyAt(t, 0, far, far+4)
	wantKeyAt(t, far, far, 2*far+4)
	wantKeyAt(t, far-1, far-1, 2*far+2)
	wantChildAt(t, 0, 0, 0, 4)
	wantChildAt(t, far, 0, 0, far+4)
	wantChildAt(t, 0, far, 0, far+4)
	wantChildAt(t, 0, 0, far, far+4)
	wantChildAt(t, far, far, far, 3*far+4)
	wantChildAt(t, far-1, far-1, far-1, 3*far+1)
	wantChildAt(t, node.Base, 1, 0, node.Root)
	wantKeyAt(t, 10, 0, 14)
	// Nothing is asked of a number beyond that: a child, a key that is none of the record's has its place, too.
	wantKeyAt(t, 1, 100, 105)
	wantChildAt(t, 1, 1, 100, 106)
}

func TestPlacesOfNumbersThatMayNotBe(t *testing.T) {
	for _, x := range []int{math.MinInt, math.MinInt + 1, -far - 1, -far, -5, -4, -2, -1, far + 1, far + 2, 2 * far, 1 << 62, math.MaxInt - 1, math.MaxInt} {
		for _, near := range []int{0, 1, 10, far} {
			wantKeyAt(t, x, near, 0)
			wantKeyAt(t, near, x, 0)
			wantChildAt(t, x, near, near, 0)
			wantChildAt(t, near, x, near, 0)
			wantChildAt(t, near, near, x, 0)
		}
		wantKeyAt(t, x, x, 0)
		wantChildAt(t, x, x, x, 0)
	}
}

// All numbers by all others: one that may not be is enough for 0, whatever the others are.
func TestPlacesOfAllNumbers(t *testing.T) {
	numbers := append(oddInts(), 2, 100, far-1)
	near := func(x int) bool { return x >= 0 && x <= far }
	for _, n := range numbers {
		for _, d := range numbers {
			want := 0
			if near(n) && near(d) {
				want = n + 4 + d
			}
			wantKeyAt(t, n, d, want)
			for _, i := range numbers {
				want := 0
				if near(n) && near(d) && near(i) {
					want = n + 4 + d + i
				}
				wantChildAt(t, n, d, i, want)
			}
		}
	}
}
