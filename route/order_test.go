package route_test

import (
	"fmt"
	"slices"
	"testing"

	"ordinate/mem"
	"ordinate/node"
	"ordinate/probe"
	"ordinate/route"
)

func fill(m *mem.Mem, w int64) {
	for a := 1; a <= m.Used(); a++ {
		m.Write(a, w)
	}
}

// stray are words that lead astray, whoever reads one of them in the place of what they are to read.
var stray = []int64{0, 1, 2, 3, 5, 8, 25, 57, 100, 1000, 65537, -1, -30, least, least + 1, greatest - 1, greatest}

// access is a cell that an access reaches, and what it holds just then.
type access struct {
	at    int
	holds int64
}

// accessesOf are those of a route through the Inner at n: to its degree, and to the keys of that path.
func accessesOf(n int, q []int64, path []int) []access {
	all := []access{{n + node.Degree, int64(len(q) + 1)}}
	for _, i := range path {
		all = append(all, access{node.KeyAt(n, i), q[i-1]})
	}
	return all
}

// wantAccesses: each Step hangs on its own cell alone. That one holds what it is to tell then and at no other moment; all others, and it itself ahead of that, hold what leads astray.
func wantAccesses(t *testing.T, n int, q []int64, k int64, path []int, child int) {
	t.Helper()
	all := accessesOf(n, q, path)
	for _, astray := range stray {
		what := fmt.Sprintf("the Inner at %d, the keys %v, %d, among cells that hold %d", n, short(q), k, astray)
		m := fresh(t, 40)
		m.Make(make([]int64, 40))
		f := route.New(n, k)
		for i, a := range all {
			fill(m, astray)
			m.Write(a.at, a.holds)
			wantStep(t, m, f, i == len(all)-1, fmt.Sprintf("the access %d: %s", i+1, what))
		}
		fill(m, astray)
		wantEnd(t, m, f, len(q)+1, child, what)
	}
}

// Which keys, in which order, written out.
func TestWhichAccessesInWhichOrder(t *testing.T) {
	four := []int64{10, 20, 30, 40}
	for _, n := range []int{1, 2, 8, 25} {
		for _, x := range []struct {
			q     []int64
			k     int64
			path  []int
			child int
		}{
			{nil, 5, nil, 0}, {nil, least, nil, 0}, {nil, greatest, nil, 0},
			{[]int64{7}, 6, []int{1}, 0}, {[]int64{7}, 7, []int{1}, 1}, {[]int64{7}, 8, []int{1}, 1},
			{[]int64{7, 9}, 6, []int{1}, 0}, {[]int64{7, 9}, 7, []int{1, 2}, 1}, {[]int64{7, 9}, 8, []int{1, 2}, 1}, {[]int64{7, 9}, 9, []int{1, 2}, 2},
			{four, 9, []int{1}, 0}, {four, 10, []int{1, 4, 2}, 1}, {four, 19, []int{1, 4, 2}, 1}, {four, 20, []int{1, 4, 2, 3}, 2},
			{four, 25, []int{1, 4, 2, 3}, 2}, {four, 30, []int{1, 4, 3}, 3}, {four, 39, []int{1, 4, 3}, 3}, {four, 40, []int{1, 4}, 4}, {four, 99, []int{1, 4}, 4},
			{[]int64{0, 1, 2, 3, 1000}, 900, []int{1, 5, 4}, 4}, {[]int64{0, 1, 2, 3, 1000}, 0, []int{1, 5, 2}, 1},
			{[]int64{0, 1, 2, 3, 1000}, 1, []int{1, 5, 2, 3}, 2}, {[]int64{0, 1, 2, 3, 1000}, 3, []int{1, 5, 2, 3, 4}, 4},
			{[]int64{0, 997, 998, 999, 1000}, 500, []int{1, 5, 3, 2}, 1}, {[]int64{0, 997, 998, 999, 1000}, 997, []int{1, 5, 4, 3, 2}, 2},
			{[]int64{0, 997, 998, 999, 1000}, 998, []int{1, 5, 4, 3}, 3}, {[]int64{0, 997, 998, 999, 1000}, 999, []int{1, 5, 4}, 4},
			{[]int64{least, 3, greatest}, least, []int{1, 3, 2}, 1}, {[]int64{least, 3, greatest}, 0, []int{1, 3, 2}, 1},
			{[]int64{least, 3, greatest}, 3, []int{1, 3, 2}, 2}, {[]int64{least, 3, greatest}, greatest - 1, []int{1, 3, 2}, 2}, {[]int64{least, 3, greatest}, greatest, []int{1, 3}, 3},
			{[]int64{greatest}, greatest, []int{1}, 1}, {[]int64{least, greatest}, greatest - 1, []int{1, 2}, 1},
		} {
			wantAccesses(t, n, x.q, x.k, x.path, x.child)
		}
	}
}

func TestThePathAmongCellsThatLeadAstray(t *testing.T) {
	d := dice(2)
	for n := range 14 {
		for _, longest := range []int{2, 60, 1 << 40} {
			q := d.rising(n, int64(d.below(60)-30), longest)
			for _, k := range around(q) {
				wantAccesses(t, 1+d.below(7), q, k, probe.Path(q, k), probe.Find(q, k))
			}
		}
	}
}

// What stands in no cell that is read may be whatever it is, from the beginning on: the Inner's own other cells, too.
func TestKeysThatAreNotReadMayHoldWhatever(t *testing.T) {
	q := []int64{0, 10, 20, 30, 40, 50, 60, 70}
	for _, k := range around(q) {
		path := probe.Path(q, k)
		for _, astray := range stray {
			m := over(t, q...)
			degree := m.At(8 + node.Degree)
			fill(m, astray)
			m.Write(8+node.Degree, degree)
			for _, i := range path {
				m.Write(node.KeyAt(8, i), q[i-1])
			}
			wantRoute(t, m, 8, k, 1+len(path), 9, probe.Find(q, k), fmt.Sprintf("%d, and whatever isn't read holds %d", k, astray))
		}
	}
}

// A cell that was read is not read again: what it is turned to behind that moves nothing.
func TestCellsTurnBehindTheirAccess(t *testing.T) {
	for _, q := range [][]int64{nil, {7}, {7, 9}, {10, 20, 30, 40}, {0, 1, 2, 3, 4, 1000}, {0, 996, 997, 998, 999, 1000}} {
		for _, k := range around(q) {
			path := probe.Path(q, k)
			all := accessesOf(8, q, path)
			for _, astray := range stray {
				what := fmt.Sprintf("the keys %v, %d, each cell that was read holds %d", q, k, astray)
				m := over(t, q...)
				f := route.New(8, k)
				for i, a := range all {
					wantStep(t, m, f, i == len(all)-1, what)
					m.Write(a.at, astray)
				}
				wantEnd(t, m, f, len(q)+1, probe.Find(q, k), what)
			}
		}
	}
}

// Keys that are turned ahead of their access count as what they are then: the other keys' own path is gone from there on.
func TestKeysTurnAheadOfTheirAccess(t *testing.T) {
	for _, x := range []struct {
		from, to []int64
		k        int64
		behind   int
		path     []int
		child    int
	}{
		// Behind the degree all keys are the other ones'.
		{[]int64{10, 20, 30, 40}, []int64{100, 200, 300, 400}, 25, 1, []int{1}, 0},
		{[]int64{10, 20, 30, 40}, []int64{1, 2, 3, 4}, 25, 1, []int{1, 4}, 4},
		// Behind the first key: the guess hangs on the first one that was, and the last one that is.
		{[]int64{10, 20, 30, 40}, []int64{0, 20, 24, 26}, 25, 2, []int{1, 4, 3}, 3},
		{[]int64{10, 20, 30, 40}, []int64{24, 26, 28, 1000}, 25, 2, []int{1, 4, 2}, 1},
		{[]int64{10, 20, 30, 40}, []int64{-9, 2, 20, 25}, 25, 2, []int{1, 4}, 4},
		// Behind the last one: the guess is 2 whatever they are by now, and from there it goes up or down.
		{[]int64{10, 20, 30, 40}, []int64{-9, 24, 25, 26}, 25, 3, []int{1, 4, 2, 3}, 3},
		{[]int64{10, 20, 30, 40}, []int64{24, 26, 27, 28}, 25, 3, []int{1, 4, 2}, 1},
		{[]int64{0, 10, 20, 30, 40, 50}, []int64{24, 26, 27, 28, 30, 50}, 25, 3, []int{1, 6, 3, 2}, 1},
		// Behind the guess: it was not above k, or it was, and so it goes on.
		{[]int64{10, 20, 30, 40}, []int64{30, 31, 32, 33}, 25, 4, []int{1, 4, 2, 3}, 2},
		{[]int64{10, 20, 30, 40}, []int64{1, 2, 3, 4}, 25, 4, []int{1, 4, 2, 3}, 3},
		{[]int64{0, 26, 27, 28, 29, 50}, []int64{0, 1, 2, 28, 29, 50}, 25, 4, []int{1, 6, 3, 2}, 2},
		{[]int64{0, 26, 27, 28, 29, 50}, []int64{0, 26, 0, 0, 0, 0}, 25, 4, []int{1, 6, 3, 2}, 1},
		// Within the keys above, and below.
		{[]int64{0, 1, 2, 3, 4, 1000}, []int64{0, 50, 60, 70, 80, 90}, 25, 4, []int{1, 6, 2, 3}, 2},
		{[]int64{0, 1, 2, 3, 4, 1000}, []int64{0, 50, 60, 70, 80, 90}, 25, 5, []int{1, 6, 2, 3, 4}, 3},
		{[]int64{0, 96, 97, 98, 99, 100}, []int64{0, 1, 2, 3, 4, 5}, 80, 4, []int{1, 6, 5, 4}, 4},
		{[]int64{0, 96, 97, 98, 99, 100}, []int64{0, 1, 2, 3, 4, 5}, 80, 5, []int{1, 6, 5, 4, 3}, 3},
	} {
		what := fmt.Sprintf("%v, and %v behind %d accesses, %d", x.from, x.to, x.behind, x.k)
		m := over(t, x.from...)
		f := route.New(8, x.k)
		for i := range 1 + len(x.path) {
			if i == x.behind {
				for j, key := range x.to {
					m.Write(node.KeyAt(8, j+1), key)
				}
			}
			wantStep(t, m, f, i == len(x.path), what)
		}
		wantEnd(t, m, f, len(x.from)+1, x.child, what)
	}
}

// The degree is what it is at the first access.
func TestTheDegreeTurnsBehindIt(t *testing.T) {
	q := []int64{10, 20, 30, 40}
	for _, k := range around(q) {
		accesses := 1 + len(probe.Path(q, k))
		for behind := range accesses {
			for _, d := range []int64{0, 1, 2, 3, 4, 6, 14, -1, 1 << 40, least, greatest} {
				m := over(t, q...)
				f := route.New(8, k)
				what := fmt.Sprintf("%d, the degree turns to %d behind %d accesses", k, d, behind+1)
				wantSteps(t, m, f, 1, behind+1, accesses, what)
				m.Write(8+node.Degree, d)
				wantSteps(t, m, f, behind+2, accesses, accesses, what)
				wantEnd(t, m, f, 5, probe.Find(q, k), what)
			}
		}
	}
	m := over(t, q...)
	f := route.New(8, 25)
	m.Write(8+node.Degree, 3)
	wantSteps(t, m, f, 1, 3, 3, "the degree turns ahead of its access")
	wantEnd(t, m, f, 3, 2, "the degree turns ahead of its access")
}

// What is told stands: behind its end nothing of the memory moves it.
func TestTheMemoryTurnsBehindTheEnd(t *testing.T) {
	m := over(t, 10, 20, 30, 40)
	f := route.New(8, 25)
	wantSteps(t, m, f, 1, 5, 5, "the memory turns behind the end")
	for _, w := range stray {
		fill(m, w)
		wantEnd(t, m, f, 5, 2, fmt.Sprint("all cells hold ", w))
	}
}

// Used cells are as they were, and none is made, whatever there is room for.
func TestNothingIsChanged(t *testing.T) {
	q := []int64{10, 20, 30, 40}
	words := node.InnerWords(5, q, make([]int64, 5))
	for _, room := range []int{0, 1, 100} {
		m := fresh(t, len(words)+room)
		m.Make(words)
		for _, k := range around(q) {
			atEnd(t, m, route.New(1, k))
			if !slices.Equal(m.Cells(), words) || m.Size() != len(words)+room || m.Refused() != 0 {
				t.Errorf("15.1: behind %d, with room for %d, the cells are %v of %d", k, room, m.Cells(), m.Size())
			}
		}
	}
}
