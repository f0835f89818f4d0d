package route_test

import (
	"fmt"
	"math/big"
	"slices"
	"testing"

	"ordinate/api"
	"ordinate/dcss"
	"ordinate/mem"
	"ordinate/node"
	"ordinate/plant"
	"ordinate/probe"
	"ordinate/ref"
	"ordinate/route"
	"ordinate/view"
)

// guess is the one of chapter 6, without bounds: k is not below first, and below last.
func guess(first, last, k int64, n int) int {
	low := big.NewInt(first)
	part := new(big.Int).Sub(big.NewInt(k), low)
	whole := new(big.Int).Sub(big.NewInt(last), low)
	part.Mul(part, big.NewInt(int64(n-1)))
	return 1 + int(part.Div(part, whole).Int64())
}

// pathOf goes the way of chapter 6, of n keys: each one is asked for when it is looked at, and tells what it is then. It tells how many aren't above k.
func pathOf(n int, k int64, look func(i int) int64) int {
	if n < 1 {
		return 0
	}
	first := look(1)
	if first > k {
		return 0
	}
	if n == 1 {
		return 1
	}
	last := look(n)
	if last <= k {
		return n
	}
	j := guess(first, last, k, n)
	if j == 1 || look(j) <= k {
		for i := j + 1; i < n; i++ {
			if look(i) > k {
				return i - 1
			}
		}
		return n - 1
	}
	for i := j - 1; i > 1; i-- {
		if look(i) <= k {
			return i
		}
	}
	return 1
}

// follow steps a frame beside the way of chapter 6: each key is asked for by one Step, and there are no more. Ahead of each access the memory may be turned. It tells which keys were looked at.
func follow(t *testing.T, m *mem.Mem, n int, k int64, turn func(at int), what string) []int {
	t.Helper()
	f := route.New(n, k)
	step := func(at int) int64 {
		turn(at)
		ahead, cells := countsOf(m), m.Cells()
		wantAhead(t, m, f, what)
		f.Step(m)
		ahead.count++
		if got := countsOf(m); got != ahead || !slices.Equal(m.Cells(), cells) {
			t.Fatalf("15.1: behind a Step the memory is %v, %v, not %v, %v: %s", got, m.Cells(), ahead, cells, what)
		}
		return m.At(at)
	}
	d := int(step(n + node.Degree))
	var path []int
	child := pathOf(d-1, k, func(i int) int64 {
		path = append(path, i)
		return step(node.KeyAt(n, i))
	})
	what = fmt.Sprintf("the keys looked at are %v: %s", path, what)
	wantEnd(t, m, f, d, child, what)
	if t.Failed() {
		t.FailNow()
	}
	return path
}

// chooser makes choices, and goes through all rows of them.
type chooser struct {
	row  []int
	made int
}

// below is a choice from 0 to n - 1.
func (c *chooser) below(n int) int {
	if c.made == len(c.row) {
		c.row = append(c.row, n-1)
	}
	c.made++
	return c.row[c.made-1]
}

// again tells whether there is another row: the last choice that isn't 0 yet is one less.
func (c *chooser) again() bool {
	c.row = c.row[:c.made]
	for len(c.row) > 0 && c.row[len(c.row)-1] == 0 {
		c.row = c.row[:len(c.row)-1]
	}
	if len(c.row) == 0 {
		return false
	}
	c.row[len(c.row)-1]--
	c.made = 0
	return true
}

// whole tells keys that rise and have those that were told among them; false, if there are none such.
func whole(n int, told map[int]int64) ([]int64, bool) {
	q := make([]int64, n)
	for i := range q {
		key, ok := told[i+1]
		switch {
		case ok:
			q[i] = key
		case i > 0:
			q[i] = q[i-1] + 1
		}
	}
	return q, probe.Right(q)
}

// Whatever each key tells when it is looked at: near and far, above and below, rising or not. All other cells lead astray just then; and where those that were told may be keys that rise, it is their path, and their child.
func TestEachKeyTellsWhatever(t *testing.T) {
	const k = 1000
	rows, rises := 0, 0
	for n := range 11 {
		for c := (&chooser{}); ; {
			m := fresh(t, 30)
			m.Make(make([]int64, 30))
			told := map[int]int64{}
			turn := func(at int) {
				fill(m, stray[(rows+len(told))%len(stray)])
				i := at - 3 - node.Sum
				if at == 3+node.Degree {
					m.Write(at, int64(n+1))
					return
				}
				key := int64(i) + []int64{0, k - 100, k, k + 1<<20}[c.below(4)]
				m.Write(at, key)
				told[i] = key
			}
			path := follow(t, m, 3, k, turn, fmt.Sprintf("%d keys, the choices %v", n, c.row))
			if q, ok := whole(n, told); ok {
				rises++
				if want := probe.Path(q, k); !slices.Equal(path, want) {
					t.Fatalf("15.2: of the keys %v those that are looked at are %v, not %v", q, path, want)
				}
			}
			rows++
			if !c.again() {
				break
			}
		}
	}
	if rows < 1000 || rises < 100 {
		t.Errorf("there were %d rows, %d of them of keys that rise", rows, rises)
	}
}

// Arbitrary words, and cells that turn between accesses.
func TestAnyMemory(t *testing.T) {
	d := dice(15)
	seen := map[int]int{}
	words := []int64{least, least + 1, -1, 0, 1, greatest - 1, greatest}
	word := func() int64 {
		switch d.below(3) {
		case 0:
			return words[d.below(len(words))]
		case 1:
			return int64(d.below(200) - 100)
		}
		return int64(d.below(1<<31)) << d.below(33)
	}
	for range 6000 {
		m := fresh(t, 40)
		for range 40 {
			m.Make([]int64{word()})
		}
		n := 1 + d.below(20)
		m.Write(n+node.Degree, int64(1+d.below(16)))
		often := 1 + d.below(4)
		turn := func(at int) {
			for a := 1; a <= 40 && d.below(often) > 0; a++ {
				if a != n+node.Degree {
					m.Write(a, word())
				}
			}
		}
		was := m.Cells()
		k := word()
		path := follow(t, m, n, k, turn, fmt.Sprintf("the Inner at %d of %v, %d", n, was, k))
		seen[min(len(path), 6)]++
	}
	for i := range 7 {
		if seen[i] < 50 {
			t.Errorf("too few of a kind: %v", seen)
		}
	}
}

// way is a frame of a crowd, and how it ends.
type way struct {
	f             *route.Frame
	accesses      int
	degree, child int
	// stops is behind how many accesses it stands still for good.
	stops int
}

// waysOf are routes through all Inners of a memory, of their keys and what lies beside these; some stop for good.
func waysOf(m *mem.Mem, d *dice) []*way {
	inners := []int{node.Base}
	for _, w := range view.Spots(m) {
		if ref.Kind(w.Word) == ref.Inner {
			inners = append(inners, ref.At(w.Word))
		}
	}
	var all []*way
	for _, at := range inners {
		degree := int(m.At(at + node.Degree))
		var q []int64
		for i := 1; i < degree; i++ {
			q = append(q, m.At(node.KeyAt(at, i)))
		}
		for _, k := range around(q) {
			w := &way{f: route.New(at, k), accesses: 1 + len(probe.Path(q, k)), degree: degree, child: probe.Find(q, k)}
			w.stops = w.accesses
			if d.below(4) == 0 {
				w.stops = d.below(w.accesses)
			}
			all = append(all, w)
		}
	}
	return all
}

// Many frames of one memory, in whatever order, beside others that shut nodes, count changes and change slots: none of these moves a route.
func TestFramesInACrowd(t *testing.T) {
	for seed := range 12 {
		d := dice(seed)
		m := begun(t, 6000)
		var l []api.Pair
		for _, k := range d.rising(60+20*seed, -4000, 90) {
			l = append(l, api.Pair{Key: k, Value: -k})
		}
		tree, _ := plant.Build(m, l)
		m.Write(node.Root, tree)
		spots := view.Spots(m)
		ways := waysOf(m, &d)
		made := make([]int, len(ways))
		changes := []*dcss.Frame{}
		for left := slices.Clone(ways); len(left) > 0; {
			i := d.below(len(left))
			at := slices.Index(ways, left[i])
			if w := left[i]; made[at] == w.stops {
				left = slices.Delete(left, i, i+1)
			} else {
				made[at]++
				wantStep(t, m, w.f, made[at] == w.accesses, "in a crowd")
			}
			changes = disturb(m, &d, spots, changes)
		}
		for i, w := range ways {
			if made[i] == w.accesses {
				wantEnd(t, m, w.f, w.degree, w.child, "in a crowd")
			} else {
				wantAhead(t, m, w.f, "it stopped in a crowd")
			}
		}
	}
}

// disturb makes one access of somebody else.
func disturb(m *mem.Mem, d *dice, spots []api.Spot, changes []*dcss.Frame) []*dcss.Frame {
	s := spots[d.below(len(spots))]
	owner := node.Base
	if ref.Kind(s.Word) == ref.Inner {
		owner = ref.At(s.Word)
	}
	switch d.below(5) {
	case 0:
		m.Write(owner+node.Shut, 1)
	case 1:
		m.Add(owner+node.Changes, 1)
	case 2:
		m.Add(owner+node.Sum, int64(d.below(9)))
	case 3:
		if m.Used()+5 <= m.Size() {
			changes = append(changes, dcss.New(owner+node.Shut, s.Slot, view.Logic(m, s.Slot), 57))
		}
	}
	if len(changes) > 0 {
		changes[d.below(len(changes))].Step(m)
	}
	return changes
}

// Frames of one Inner, and of several, don't see each other.
func TestFramesDoNotSeeEachOther(t *testing.T) {
	m := over(t, 10, 20, 30, 40)
	one, same, other := route.New(8, 25), route.New(8, 25), route.New(1, 25)
	wantSteps(t, m, one, 1, 3, 5, "one")
	wantSteps(t, m, same, 1, 1, 5, "the same")
	wantSteps(t, m, other, 1, 1, 1, "the other Inner's")
	above := route.New(8, 39)
	wantSteps(t, m, above, 1, 4, 4, "another number's")
	wantSteps(t, m, same, 2, 5, 5, "the same")
	wantSteps(t, m, one, 4, 5, 5, "one")
	wantEnd(t, m, one, 5, 2, "one")
	wantEnd(t, m, same, 5, 2, "the same")
	wantEnd(t, m, other, 1, 0, "the other Inner's")
	wantEnd(t, m, above, 5, 3, "another number's")
}

// A copy goes on from where the other one stops, by itself.
func TestClone(t *testing.T) {
	for _, q := range [][]int64{{10, 20, 30, 40}, {0, 1, 2, 3, 4, 1000}, {0, 996, 997, 998, 999, 1000}, {3}, nil} {
		for _, k := range []int64{-1, 0, 3, 25, 500, 999, 2000} {
			end := 1 + len(probe.Path(q, k))
			for behind := range end + 1 {
				what := fmt.Sprintf("the keys %v, %d, copied behind %d accesses", q, k, behind)
				m := over(t, q...)
				f := route.New(8, k)
				wantSteps(t, m, f, 1, behind, end, "the first one, "+what)
				ahead, then := countsOf(m), m.Clone()
				c := f.Clone()
				if got := countsOf(m); got != ahead {
					t.Errorf("0.5: Clone made accesses: %v, not %v", got, ahead)
				}
				// Each of them goes on over a memory as it was then; in turns, so that what they shared would be seen.
				for i := behind + 1; i <= end; i++ {
					wantSteps(t, m, c, i, i, end, "the copy, "+what)
					wantSteps(t, then, f, i, i, end, "the first one, "+what)
				}
				wantEnd(t, m, c, len(q)+1, probe.Find(q, k), "the copy, "+what)
				wantEnd(t, then, f, len(q)+1, probe.Find(q, k), "the first one, "+what)
			}
		}
	}
}

// A copy of a copy is its own, too: it goes by what its memory tells by then.
func TestCloneOfAClone(t *testing.T) {
	m := over(t, 10, 20, 30, 40)
	f := route.New(8, 25)
	wantSteps(t, m, f, 1, 3, 5, "the first one")
	c := f.Clone().Clone()
	wantSteps(t, m, f, 4, 5, 5, "the first one")
	m.Write(node.KeyAt(8, 2), 26)
	wantSteps(t, m, c, 4, 4, 4, "the copy")
	wantEnd(t, m, f, 5, 2, "the first one")
	wantEnd(t, m, c, 5, 1, "the copy")
}
