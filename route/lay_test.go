package route_test

import (
	"fmt"
	"math"
	"slices"
	"testing"

	"ordinate/api"
	"ordinate/mem"
	"ordinate/node"
	"ordinate/probe"
	"ordinate/route"
)

const (
	least    = math.MinInt64
	greatest = math.MaxInt64
)

func fresh(t *testing.T, size int) *mem.Mem {
	t.Helper()
	m, why := mem.New(size)
	if why != api.OK {
		t.Fatalf("7.1: New(%d) tells %d", size, why)
	}
	return m
}

// begun is a memory behind Begin: its first 7 cells are used, at 1 lies an Inner of degree 1.
func begun(t *testing.T, size int) *mem.Mem {
	t.Helper()
	m := fresh(t, size)
	if !node.Begin(m) {
		t.Fatalf("8.3: Begin of %d cells", size)
	}
	return m
}

// over is a memory behind Begin with an Inner over these keys at 8, and a row of cells behind it that are no node's.
func over(t *testing.T, q ...int64) *mem.Mem {
	t.Helper()
	m := begun(t, 7+6+2*len(q)+4)
	c := make([]int64, len(q)+1)
	for i := range c {
		c[i] = 57
	}
	if at, ok := m.Make(node.InnerWords(len(q)+1, q, c)); at != 8 || !ok {
		t.Fatalf("7.2: Make of an Inner of %d keys is %d, %t", len(q), at, ok)
	}
	m.Make([]int64{-3, 5, 0, 1 << 40})
	return m
}

// counts is what a memory tells of its accesses.
type counts struct{ count, odd, refused int }

func countsOf(m *mem.Mem) counts {
	return counts{m.Count(), m.Odd(), m.Refused()}
}

// short tells a long list by its ends, so that a fault can be read.
func short[T any](q []T) any {
	if len(q) <= 24 {
		return q
	}
	return []any{len(q), q[:8], q[len(q)-8:]}
}

// wantAhead: the frame is not at its end, and tells nothing yet; to ask is no access.
func wantAhead(t *testing.T, m *mem.Mem, f *route.Frame, what string) {
	t.Helper()
	ahead := countsOf(m)
	if f.Done() || f.Degree() != 0 || f.Child() != 0 {
		t.Errorf("0.5: ahead of its end Done is %t, Degree %d, Child %d: %s", f.Done(), f.Degree(), f.Child(), what)
	}
	if got := countsOf(m); got != ahead {
		t.Errorf("0.5: Done, Degree and Child made accesses: %v, not %v: %s", got, ahead, what)
	}
}

// wantStep: the Step is one access, not an odd one, it is the last one or not, and turns and makes no cell.
func wantStep(t *testing.T, m *mem.Mem, f *route.Frame, last bool, what string) {
	t.Helper()
	wantAhead(t, m, f, what)
	want, cells := countsOf(m), m.Cells()
	want.count++
	if got := f.Step(m); got != last || f.Done() != last {
		t.Errorf("15.1: Step is %t, Done behind it %t, not %t: %s", got, f.Done(), last, what)
	}
	if !last {
		wantAhead(t, m, f, what)
	}
	if got := countsOf(m); got != want {
		t.Errorf("0.5: behind a Step Count, Odd, Refused are %v, not %v: %s", got, want, what)
	}
	if got := m.Cells(); !slices.Equal(got, cells) {
		t.Errorf("15.1: behind a Step the cells are %v, not %v: %s", short(got), short(cells), what)
	}
}

// wantEnd: the frame is at its end, tells both, and goes on doing so however often it is stepped, without an access.
func wantEnd(t *testing.T, m *mem.Mem, f *route.Frame, degree, child int, what string) {
	t.Helper()
	ahead, cells := countsOf(m), m.Cells()
	for range 4 {
		if !f.Done() || f.Degree() != degree || f.Child() != child {
			t.Errorf("15.1: at its end Done is %t, Degree %d, not %d, Child %d, not %d: %s", f.Done(), f.Degree(), degree, f.Child(), child, what)
		}
		if !f.Step(m) {
			t.Errorf("0.5: Step at its end is false: %s", what)
		}
	}
	if got := countsOf(m); got != ahead {
		t.Errorf("0.5: at its end there were accesses: %v, not %v: %s", got, ahead, what)
	}
	if got := m.Cells(); !slices.Equal(got, cells) {
		t.Errorf("0.5: at its end cells were turned: %v, not %v: %s", short(got), short(cells), what)
	}
}

// wantSteps steps a frame from one access to another one, the end of which is said.
func wantSteps(t *testing.T, m *mem.Mem, f *route.Frame, from, to, end int, what string) {
	t.Helper()
	for i := from; i <= to; i++ {
		wantStep(t, m, f, i == end, fmt.Sprintf("the access %d: %s", i, what))
	}
}

// wantRoute steps a new frame of the Inner at n to its end: so many accesses, and what it tells then.
func wantRoute(t *testing.T, m *mem.Mem, n int, k int64, accesses, degree, child int, what string) {
	t.Helper()
	ahead := countsOf(m)
	f := route.New(n, k)
	if got := countsOf(m); got != ahead {
		t.Errorf("0.5: New made accesses: %v, not %v: %s", got, ahead, what)
	}
	wantSteps(t, m, f, 1, accesses, accesses, what)
	wantEnd(t, m, f, degree, child, what)
}

// atEnd is a frame that has been stepped to its end, however many accesses that were.
func atEnd(t *testing.T, m *mem.Mem, f *route.Frame) *route.Frame {
	t.Helper()
	for range 3 + api.MaxCells {
		if f.Step(m) {
			return f
		}
	}
	t.Fatal("15.1: it does not end")
	return nil
}

// wantKeys: the route of k through an Inner at 8 over these keys reads as many of them as probe's Path has.
func wantKeys(t *testing.T, q []int64, k int64) {
	t.Helper()
	what := fmt.Sprintf("the keys %v, %d", short(q), k)
	wantRoute(t, over(t, q...), 8, k, 1+len(probe.Path(q, k)), len(q)+1, probe.Find(q, k), what)
}

// around tells the keys of a list, and what stands beside them on both sides, as far as there is something.
func around(q []int64) []int64 {
	ks := []int64{least, least + 1, -1, 0, 1, greatest - 1, greatest}
	for _, key := range q {
		ks = append(ks, key)
		if key > least {
			ks = append(ks, key-1)
		}
		if key < greatest {
			ks = append(ks, key+1)
		}
	}
	slices.Sort(ks)
	return slices.Compact(ks)
}

// dice tells numbers that are the same in each run.
type dice uint64

// below tells the next one, from 0 to n - 1.
func (d *dice) below(n int) int {
	*d = *d*6364136223846793005 + 1442695040888963407
	return int((*d >> 33) % dice(n))
}

// rising tells n keys that rise from first on, by steps that are now short, now long.
func (d *dice) rising(n int, first int64, longest int) []int64 {
	q := make([]int64, 0, n)
	for range n {
		q = append(q, first)
		first += 1 + int64(d.below(1+d.below(longest)))
	}
	return q
}
