package mem_test

import (
	"math"
	"slices"
	"testing"

	"ordinate/api"
	"ordinate/mem"
)

const (
	least = math.MinInt64
	most  = math.MaxInt64
)

func wantCells(t *testing.T, m *mem.Mem, want ...int64) {
	t.Helper()
	if got := m.Cells(); !slices.Equal(got, want) {
		t.Errorf("7.3: Cells is %v, not %v", got, want)
	}
	if m.Used() != len(want) {
		t.Errorf("7.3: Used is %d, not %d", m.Used(), len(want))
	}
	for i, x := range want {
		if got := m.At(i + 1); got != x {
			t.Errorf("7.3: At(%d) is %d, not %d", i+1, got, x)
		}
	}
}

func wantMake(t *testing.T, m *mem.Mem, w []int64, wantAt int, want bool) {
	t.Helper()
	if at, ok := m.Make(w); at != wantAt || ok != want {
		t.Errorf("7.2: Make of %d is %d %t, not %d %t", len(w), at, ok, wantAt, want)
	}
}

func wantCas(t *testing.T, m *mem.Mem, a int, old, x int64, want bool) {
	t.Helper()
	if got := m.Cas(a, old, x); got != want {
		t.Errorf("7.2: Cas(%d, %d, %d) is %t", a, old, x, got)
	}
}

func wantAdd(t *testing.T, m *mem.Mem, a int, d, want int64) {
	t.Helper()
	if got := m.Add(a, d); got != want {
		t.Errorf("7.2: Add(%d, %d) is %d, not %d", a, d, got, want)
	}
}

func wantRead(t *testing.T, m *mem.Mem, a int, want int64) {
	t.Helper()
	if got := m.Read(a); got != want {
		t.Errorf("7.2: Read(%d) is %d, not %d", a, got, want)
	}
}

func wantAt(t *testing.T, m *mem.Mem, a int, want int64) {
	t.Helper()
	if got := m.At(a); got != want {
		t.Errorf("7.3: At(%d) is %d, not %d", a, got, want)
	}
}

func wantCounts(t *testing.T, m *mem.Mem, count, odd, refused int) {
	t.Helper()
	if m.Count() != count || m.Odd() != odd || m.Refused() != refused {
		t.Errorf("7.3: Count, Odd, Refused are %d, %d, %d, not %d, %d, %d", m.Count(), m.Odd(), m.Refused(), count, odd, refused)
	}
}

// rising is n numbers from first on.
func rising(n int, first int64) []int64 {
	var w []int64
	for i := range n {
		w = append(w, first+int64(i))
	}
	return w
}

func TestChapterExamples(t *testing.T) {
	m := fresh(t, 3)
	wantMake(t, m, []int64{7, 8}, 1, true)
	wantMake(t, m, []int64{1, 2}, 0, false)
	wantRead(t, m, 2, 8)
	wantAdd(t, m, 1, 5, 7)
	wantAt(t, m, 1, 12)
	wantRead(t, m, 3, 0)
	wantCounts(t, m, 5, 1, 1)
	wantCas(t, m, 1, 12, 13, true)
	wantCas(t, m, 1, 12, 14, false)
	wantCells(t, m, 13, 8)
	wantCounts(t, m, 7, 1, 1)
}

func TestSizesThatMayBe(t *testing.T) {
	for _, size := range []int{1, 2, 3, 7, 8, 255, 256, 1000, api.MaxCells - 1, api.MaxCells} {
		m := fresh(t, size)
		if m.Size() != size {
			t.Errorf("7.1: Size behind New(%d) is %d", size, m.Size())
		}
		wantCells(t, m)
		wantCounts(t, m, 0, 0, 0)
		for _, a := range []int{1, size, size + 1} {
			wantAt(t, m, a, 0)
		}
	}
}

func TestSizesThatMayNotBe(t *testing.T) {
	for _, size := range []int{0, -1, -2, -api.MaxCells, math.MinInt, math.MinInt + 1, api.MaxCells + 1, 2 * api.MaxCells, 1 << 32, 1<<32 + 1, math.MaxInt - 1, math.MaxInt} {
		if m, why := mem.New(size); m != nil || why != api.ErrSize {
			t.Errorf("7.1: New(%d) is a memory: %t, and %d, not ErrSize", size, m != nil, why)
		}
	}
}

func TestCellsAreGivenOutInOrderAndOnce(t *testing.T) {
	m := fresh(t, 10)
	wantMake(t, m, []int64{1}, 1, true)
	wantMake(t, m, []int64{2, 3, 4}, 2, true)
	wantMake(t, m, []int64{5, 6}, 5, true)
	wantCells(t, m, 1, 2, 3, 4, 5, 6)
	// A cell that holds 0 again isn't given out again.
	m.Write(6, 0)
	m.Write(1, 0)
	wantMake(t, m, []int64{7}, 7, true)
	wantCells(t, m, 0, 2, 3, 4, 5, 0, 7)
	wantCounts(t, m, 6, 0, 0)
}

func TestMakeOfWhatIsLeft(t *testing.T) {
	for size := 1; size <= 12; size++ {
		for used := 0; used <= size; used++ {
			b := freshBoth(t, size)
			if used > 0 {
				b.makeCells(rising(used, 100)...)
			}
			left := size - used
			b.makeCells(rising(left+1, 200)...)
			b.wantAlike()
			b.makeCells(rising(left+size, 300)...)
			b.wantAlike()
			b.makeCells(rising(left, 400)...)
			b.wantAlike()
			b.makeCells(500)
			b.wantAlike()
			if b.m.Used() != size {
				t.Errorf("7.2: %d of %d cells are used behind a Make of all that were left", b.m.Used(), size)
			}
		}
	}
}

func TestMakeOfNone(t *testing.T) {
	m := fresh(t, 2)
	wantMake(t, m, nil, 0, false)
	wantMake(t, m, []int64{}, 0, false)
	wantCells(t, m)
	wantCounts(t, m, 2, 0, 2)
	wantMake(t, m, []int64{4, 5}, 1, true)
	// Of none there is room in a full memory, too: it is refused all the same.
	wantMake(t, m, nil, 0, false)
	wantMake(t, m, make([]int64, 0, 9), 0, false)
	wantCells(t, m, 4, 5)
	wantCounts(t, m, 5, 0, 4)
}

// A refused Make leaves all cells to the next one, even one that is refused for one cell.
func TestMakeBehindARefusedOne(t *testing.T) {
	m := fresh(t, 4)
	wantMake(t, m, rising(5, 1), 0, false)
	wantMake(t, m, rising(3, 1), 1, true)
	wantMake(t, m, rising(2, 8), 0, false)
	wantMake(t, m, nil, 0, false)
	wantMake(t, m, []int64{9}, 4, true)
	wantMake(t, m, []int64{9}, 0, false)
	wantCells(t, m, 1, 2, 3, 9)
	wantCounts(t, m, 6, 0, 4)
}

func TestOneCell(t *testing.T) {
	b := freshBoth(t, 1)
	b.read(1)
	b.makeCells(1, 2)
	b.makeCells(most)
	b.wantAlike()
	b.read(1)
	b.read(2)
	b.add(1, 1)
	b.cas(1, least, 6)
	b.makeCells(3)
	b.write(2, 4)
	b.wantAlike()
	wantCells(t, b.m, 6)
	wantCounts(t, b.m, 9, 3, 2)
}

func TestTheMostCells(t *testing.T) {
	const n = api.MaxCells
	m := fresh(t, n)
	wantMake(t, m, make([]int64, n+1), 0, false)
	wantMake(t, m, rising(n-1, 10), 1, true)
	wantRead(t, m, n-1, n+8)
	wantRead(t, m, n, 0)
	wantMake(t, m, []int64{1, 2}, 0, false)
	wantMake(t, m, []int64{-1}, n, true)
	wantAdd(t, m, n, -1, -1)
	wantRead(t, m, n, -2)
	wantRead(t, m, n+1, 0)
	wantMake(t, m, []int64{1}, 0, false)
	wantCells(t, m, append(rising(n-1, 10), -2)...)
	wantCounts(t, m, 10, 2, 3)
	whole := fresh(t, n)
	wantMake(t, whole, rising(n, least), 1, true)
	wantMake(t, whole, []int64{0}, 0, false)
	wantCells(t, whole, rising(n, least)...)
}

// The most cells are given out one by one, each once.
func TestTheMostCellsOneByOne(t *testing.T) {
	m := fresh(t, api.MaxCells)
	for a := 1; a <= api.MaxCells; a++ {
		wantMake(t, m, []int64{int64(-a)}, a, true)
	}
	wantMake(t, m, []int64{1}, 0, false)
	wantAt(t, m, 1, -1)
	wantAt(t, m, api.MaxCells, -api.MaxCells)
	if m.Used() != m.Size() {
		t.Errorf("7.3: %d of %d cells are used", m.Used(), m.Size())
	}
	wantCounts(t, m, api.MaxCells+1, 0, 1)
}

func TestWrite(t *testing.T) {
	m := fresh(t, 5)
	m.Make([]int64{1, 2, 3})
	m.Write(1, most)
	m.Write(3, least)
	wantCells(t, m, most, 2, least)
	m.Write(2, 2)
	m.Write(1, 0)
	m.Write(1, -5)
	wantCells(t, m, -5, 2, least)
	wantRead(t, m, 1, -5)
	wantRead(t, m, 1, -5)
	wantCounts(t, m, 8, 0, 0)
}

func TestCas(t *testing.T) {
	m := fresh(t, 5)
	m.Make([]int64{1, 2, 0})
	wantCas(t, m, 2, 2, 20, true)
	wantCells(t, m, 1, 20, 0)
	// Its old is not what is there any more, nor what is to be there.
	wantCas(t, m, 2, 2, 21, false)
	wantCas(t, m, 2, 19, 20, false)
	wantCas(t, m, 2, 0, 22, false)
	// What another cell holds doesn't count.
	wantCas(t, m, 2, 1, 23, false)
	wantCells(t, m, 1, 20, 0)
	// Its x is its old.
	wantCas(t, m, 2, 20, 20, true)
	wantCas(t, m, 2, 21, 21, false)
	wantCells(t, m, 1, 20, 0)
	// A cell that holds 0 is there, one behind it isn't.
	wantCas(t, m, 3, 0, 0, true)
	wantCas(t, m, 3, 0, least, true)
	wantCas(t, m, 3, least, most, true)
	wantCas(t, m, 3, least, 1, false)
	wantCas(t, m, 4, 0, 1, false)
	wantCas(t, m, 4, 0, 0, false)
	wantCells(t, m, 1, 20, most)
	wantCounts(t, m, 14, 2, 0)
}

func TestAdd(t *testing.T) {
	m := fresh(t, 4)
	m.Make([]int64{10, -10, 0})
	wantAdd(t, m, 1, 0, 10)
	wantAdd(t, m, 1, 5, 10)
	wantAdd(t, m, 1, -20, 15)
	wantAdd(t, m, 1, 0, -5)
	wantAdd(t, m, 2, -1, -10)
	wantAdd(t, m, 2, 11, -11)
	wantAdd(t, m, 3, most, 0)
	wantCells(t, m, -5, 0, most)
	wantCounts(t, m, 8, 0, 0)
}

func TestAddGoesRound(t *testing.T) {
	for _, x := range []struct{ held, d, want int64 }{
		{most, 1, least}, {most, 2, least + 1}, {most, most, -2}, {most - 1, 1, most}, {most, 0, most}, {most, least, -1},
		{least, -1, most}, {least, -2, most - 1}, {least, least, 0}, {least + 1, -1, least}, {least, 0, least}, {least, most, -1},
		{0, least, least}, {0, most, most}, {1, most, least}, {-1, least, most},
	} {
		m := fresh(t, 3)
		m.Make([]int64{5, x.held, 6})
		wantAdd(t, m, 2, x.d, x.held)
		wantCells(t, m, 5, x.want, 6)
	}
}

// No word is like none: each one is held, told and held against another as it is.
func TestWordsOfAllKinds(t *testing.T) {
	words := []int64{least, least + 1, -1 << 32, -1, 0, 1, 1 << 31, 1 << 32, 1<<53 + 1, most - 1, most}
	m := fresh(t, len(words)+1)
	wantMake(t, m, words, 1, true)
	wantCells(t, m, words...)
	for i, x := range words {
		wantRead(t, m, i+1, x)
		for _, other := range words {
			wantCas(t, m, i+1, other, x, other == x)
			m.Write(len(words), other)
			wantRead(t, m, len(words), other)
			m.Write(len(words), words[len(words)-1])
		}
	}
	wantCells(t, m, words...)
}

// A cell that holds 0 is used: what is done to it isn't odd. One that isn't used tells 0, too, but each access is odd.
func TestZeroAgainstNotUsed(t *testing.T) {
	m := fresh(t, 2)
	m.Make([]int64{0})
	for a := 1; a <= 2; a++ {
		wantRead(t, m, a, 0)
		wantAt(t, m, a, 0)
		wantAdd(t, m, a, 0, 0)
		wantCas(t, m, a, 0, 0, a == 1)
		m.Write(a, 0)
		wantCounts(t, m, 1+4*a, 4*(a-1), 0)
		wantCells(t, m, 0)
	}
	// What was done to the second one ahead of its use isn't to be seen behind it.
	m.Write(2, 8)
	wantAdd(t, m, 2, 9, 0)
	wantCas(t, m, 2, 0, 10, false)
	wantMake(t, m, []int64{0}, 2, true)
	wantRead(t, m, 2, 0)
	wantCells(t, m, 0, 0)
}

// strange is addresses that are no used cell's in a memory of the size, of whose cells so many are used.
func strange(used, size int) []int {
	return []int{0, -1, -2, -used, -size, used + 1, used + 2, size, size + 1, size + 2, api.MaxCells, api.MaxCells + 1, 1 << 32, 1<<32 + 1, -1 << 32, math.MinInt, math.MinInt + 1, math.MaxInt - 1, math.MaxInt}
}

func TestOddAccesses(t *testing.T) {
	for _, x := range []struct{ used, size int }{{0, 1}, {0, 5}, {1, 2}, {2, 5}, {300, 400}, {0, api.MaxCells}, {3, api.MaxCells}} {
		m := fresh(t, x.size)
		words := rising(x.used, 1)
		m.Make(words)
		count, odd, refused := m.Count(), 0, m.Refused()
		for _, a := range strange(x.used, x.size) {
			wantRead(t, m, a, 0)
			wantAdd(t, m, a, 1, 0)
			wantAdd(t, m, a, 0, 0)
			wantCas(t, m, a, 0, 1, false)
			wantCas(t, m, a, 0, 0, false)
			wantCas(t, m, a, 1, 1, false)
			m.Write(a, 9)
			wantRead(t, m, a, 0)
			count, odd = count+8, odd+8
			wantCounts(t, m, count, odd, refused)
			wantAt(t, m, a, 0)
			wantCounts(t, m, count, odd, refused)
		}
		wantCells(t, m, words...)
		wantMake(t, m, []int64{-7}, x.used+1, true)
		wantCells(t, m, append(words, -7)...)
	}
}

func TestOddAccessesOfAFullMemory(t *testing.T) {
	for _, size := range []int{1, 2, 300, api.MaxCells} {
		m := fresh(t, size)
		m.Make(rising(size, 5))
		for i, a := range []int{0, -1, -size, size + 1, size + 2, math.MinInt, math.MaxInt} {
			wantRead(t, m, a, 0)
			wantAdd(t, m, a, 3, 0)
			wantCas(t, m, a, 0, 3, false)
			m.Write(a, 3)
			wantAt(t, m, a, 0)
			wantCounts(t, m, 5+4*i, 4+4*i, 0)
		}
		wantCells(t, m, rising(size, 5)...)
	}
}

// Each kind of access counts once, whatever comes of it; nothing else counts.
func TestWhatCounts(t *testing.T) {
	for _, x := range []struct {
		name                string
		call                func(m *mem.Mem)
		count, odd, refused int
	}{
		{"Make", func(m *mem.Mem) { m.Make([]int64{1, 2}) }, 1, 0, 0},
		{"Make of too many", func(m *mem.Mem) { m.Make(make([]int64, 9)) }, 1, 0, 1},
		{"Make of none", func(m *mem.Mem) { m.Make(nil) }, 1, 0, 1},
		{"Read", func(m *mem.Mem) { m.Read(1) }, 1, 0, 0},
		{"odd Read", func(m *mem.Mem) { m.Read(3) }, 1, 1, 0},
		{"Write", func(m *mem.Mem) { m.Write(2, 1) }, 1, 0, 0},
		{"odd Write", func(m *mem.Mem) { m.Write(0, 1) }, 1, 1, 0},
		{"Cas", func(m *mem.Mem) { m.Cas(1, 7, 8) }, 1, 0, 0},
		{"Cas of another word", func(m *mem.Mem) { m.Cas(1, 6, 8) }, 1, 0, 0},
		{"odd Cas", func(m *mem.Mem) { m.Cas(5, 0, 8) }, 1, 1, 0},
		{"Add", func(m *mem.Mem) { m.Add(2, 4) }, 1, 0, 0},
		{"Add of 0", func(m *mem.Mem) { m.Add(2, 0) }, 1, 0, 0},
		{"odd Add", func(m *mem.Mem) { m.Add(-1, 4) }, 1, 1, 0},
		{"At", func(m *mem.Mem) { m.At(1) }, 0, 0, 0},
		{"At of none", func(m *mem.Mem) { m.At(9) }, 0, 0, 0},
		{"Cells", func(m *mem.Mem) { m.Cells() }, 0, 0, 0},
		{"Used", func(m *mem.Mem) { m.Used() }, 0, 0, 0},
		{"Size", func(m *mem.Mem) { m.Size() }, 0, 0, 0},
		{"Count", func(m *mem.Mem) { m.Count() }, 0, 0, 0},
		{"Odd", func(m *mem.Mem) { m.Odd() }, 0, 0, 0},
		{"Refused", func(m *mem.Mem) { m.Refused() }, 0, 0, 0},
		{"Clone", func(m *mem.Mem) { m.Clone() }, 0, 0, 0},
	} {
		m := fresh(t, 4)
		m.Make([]int64{7, 7})
		x.call(m)
		if m.Count() != 1+x.count || m.Odd() != x.odd || m.Refused() != x.refused {
			t.Errorf("7.3: behind %s Count, Odd, Refused are %d, %d, %d", x.name, m.Count(), m.Odd(), m.Refused())
		}
		x.call(m)
		if m.Count() != 1+2*x.count {
			t.Errorf("7.3: behind %s, twice, Count is %d", x.name, m.Count())
		}
	}
}
