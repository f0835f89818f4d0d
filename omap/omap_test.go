package omap_test

import (
	"cmp"
	"iter"
	"maps"
	"math"
	"slices"
	"strconv"
	"testing"

	"ordinate/omap"
)

// pair is a key and its value, as a loop tells them.
type pair[K cmp.Ordered, V any] struct {
	key   K
	value V
}

// filled tells a map into which the keys were put one behind the other, each with its place, from 1 on, as its value.
func filled[K cmp.Ordered](keys ...K) *omap.Map[K, int] {
	m := &omap.Map[K, int]{}
	for i, k := range keys {
		m.Put(k, i+1)
	}
	return m
}

func collect[K cmp.Ordered, V any](seq iter.Seq2[K, V]) []pair[K, V] {
	var told []pair[K, V]
	for k, v := range seq {
		told = append(told, pair[K, V]{k, v})
	}
	return told
}

func wantPut[K cmp.Ordered, V comparable](t *testing.T, m *omap.Map[K, V], k K, v V, old V, had bool) {
	t.Helper()
	if x, ok := m.Put(k, v); x != old || ok != had {
		t.Errorf("4.1: Put(%v, %v) is %v %t, not %v %t", k, v, x, ok, old, had)
	}
}

func wantDel[K cmp.Ordered, V comparable](t *testing.T, m *omap.Map[K, V], k K, old V, had bool) {
	t.Helper()
	if x, ok := m.Del(k); x != old || ok != had {
		t.Errorf("4.1: Del(%v) is %v %t, not %v %t", k, x, ok, old, had)
	}
}

func wantGet[K cmp.Ordered, V comparable](t *testing.T, m *omap.Map[K, V], k K, v V, is bool) {
	t.Helper()
	if x, ok := m.Get(k); x != v || ok != is {
		t.Errorf("4.1: Get(%v) is %v %t, not %v %t", k, x, ok, v, is)
	}
}

func wantFloor[K cmp.Ordered, V comparable](t *testing.T, m *omap.Map[K, V], k, key K, v V, is bool) {
	t.Helper()
	if x, y, ok := m.Floor(k); x != key || y != v || ok != is {
		t.Errorf("4.2: Floor(%v) is %v %v %t, not %v %v %t", k, x, y, ok, key, v, is)
	}
}

func wantCeiling[K cmp.Ordered, V comparable](t *testing.T, m *omap.Map[K, V], k, key K, v V, is bool) {
	t.Helper()
	if x, y, ok := m.Ceiling(k); x != key || y != v || ok != is {
		t.Errorf("4.2: Ceiling(%v) is %v %v %t, not %v %v %t", k, x, y, ok, key, v, is)
	}
}

func wantLen[K cmp.Ordered, V any](t *testing.T, m *omap.Map[K, V], want int) {
	t.Helper()
	if n := m.Len(); n != want {
		t.Errorf("4.2: Len is %d, not %d", n, want)
	}
}

// wantSeq goes through one iterator twice.
func wantSeq[K cmp.Ordered, V comparable](t *testing.T, what string, seq iter.Seq2[K, V], want []pair[K, V]) {
	t.Helper()
	if seq == nil {
		t.Fatalf("0.3: %s is nil", what)
	}
	if first, second := collect(seq), collect(seq); !slices.Equal(first, want) || !slices.Equal(second, want) {
		t.Errorf("4.3: %s is %v, a second time %v, not %v", what, first, second, want)
	}
}

// wantPairs asks for all pairs, to either side, and for how many there are.
func wantPairs[K cmp.Ordered, V comparable](t *testing.T, m *omap.Map[K, V], rising ...pair[K, V]) {
	t.Helper()
	wantSeq(t, "All", m.All(), rising)
	falling := slices.Clone(rising)
	slices.Reverse(falling)
	wantSeq(t, "Backward", m.Backward(), falling)
	wantLen(t, m, len(rising))
}

// wantRange asks for the keys that Range tells, in order, and that their values are those that Get tells.
func wantRange[K cmp.Ordered, V comparable](t *testing.T, m *omap.Map[K, V], lo, hi K, keys ...K) {
	t.Helper()
	var want []pair[K, V]
	for _, k := range keys {
		v, _ := m.Get(k)
		want = append(want, pair[K, V]{k, v})
	}
	wantSeq(t, "Range", m.Range(lo, hi), want)
}

// wantNone asks each call of an empty map, at some keys, more than once: none of them leaves anything behind.
func wantNone[K cmp.Ordered, V comparable](t *testing.T, m *omap.Map[K, V], keys ...K) {
	t.Helper()
	var noKey K
	var none V
	for range 3 {
		for _, k := range keys {
			wantDel(t, m, k, none, false)
			wantGet(t, m, k, none, false)
			wantFloor(t, m, k, noKey, none, false)
			wantCeiling(t, m, k, noKey, none, false)
			wantRange(t, m, k, k)
			wantRange(t, m, slices.Min(keys), k)
			wantRange(t, m, k, slices.Min(keys))
		}
		wantPairs(t, m)
		wantPairs(t, m.Clone())
	}
}

func TestChapterExamples(t *testing.T) {
	var m omap.Map[int64, int64]
	wantPut(t, &m, 5, 50, 0, false)
	wantPut(t, &m, 3, 30, 0, false)
	wantPut(t, &m, 5, 51, 50, true)
	wantGet(t, &m, 5, 51, true)
	wantLen(t, &m, 2)
	wantFloor(t, &m, 4, 3, 30, true)
	wantCeiling(t, &m, 4, 5, 51, true)
	wantFloor(t, &m, 2, 0, 0, false)
	wantDel(t, &m, 3, 30, true)
	wantDel(t, &m, 3, 0, false)
}

func TestNumbers(t *testing.T) {
	m := filled(7, -7, 0)
	wantPairs(t, m, pair[int, int]{-7, 2}, pair[int, int]{0, 3}, pair[int, int]{7, 1})
	wantGet(t, m, 0, 3, true)
	wantFloor(t, m, -1, -7, 2, true)
	wantCeiling(t, m, -1, 0, 3, true)
	wantRange(t, m, -1, 9, 0, 7)
	c := m.Clone()
	wantDel(t, m, 0, 3, true)
	wantGet(t, m, 0, 0, false)
	wantFloor(t, m, 6, -7, 2, true)
	wantCeiling(t, m, -6, 7, 1, true)
	wantPut(t, m, 2, 22, 0, false)
	wantPairs(t, m, pair[int, int]{-7, 2}, pair[int, int]{2, 22}, pair[int, int]{7, 1})
	wantPairs(t, c, pair[int, int]{-7, 2}, pair[int, int]{0, 3}, pair[int, int]{7, 1})
}

func TestTexts(t *testing.T) {
	var m omap.Map[string, string]
	for _, k := range []string{"pear", "apple", "", "plum", "fig"} {
		wantPut(t, &m, k, k+"!", "", false)
	}
	wantPut(t, &m, "fig", "", "fig!", true)
	wantGet(t, &m, "fig", "", true)
	wantGet(t, &m, "", "!", true)
	wantGet(t, &m, "figs", "", false)
	wantFloor(t, &m, "grape", "fig", "", true)
	wantCeiling(t, &m, "grape", "pear", "pear!", true)
	wantFloor(t, &m, "a", "", "!", true)
	wantCeiling(t, &m, "plums", "", "", false)
	wantRange(t, &m, "apple", "pear", "apple", "fig", "pear")
	wantDel(t, &m, "pear", "pear!", true)
	wantDel(t, &m, "pear", "", false)
	wantPairs(t, &m, pair[string, string]{"", "!"}, pair[string, string]{"apple", "apple!"},
		pair[string, string]{"fig", ""}, pair[string, string]{"plum", "plum!"})
}

// Texts stand byte by byte, whether their bytes are runes or not.
func TestTextsStandByteByByte(t *testing.T) {
	rising := []string{"", "\x00", "\x00\x00", "\x00a", "\x7f", "\x80", "\xc3", "\xc3\xa4", "\xff", "\xff\x00", "\xff\xff"}
	rising = append(rising, "0", "10", "9", "A", "Z", "Za", "a", "a\x00", "aa", "ab", "b", "ä", "日", "\U0001f600")
	slices.SortFunc(rising, func(a, b string) int { return slices.Compare([]byte(a), []byte(b)) })
	// "ä" is "\xc3\xa4": it is there twice.
	rising = slices.Compact(rising)
	m := &omap.Map[string, int]{}
	for i := range rising {
		place := (i*7 + 3) % len(rising)
		m.Put(rising[place], place)
	}
	var want []pair[string, int]
	for i, k := range rising {
		want = append(want, pair[string, int]{k, i})
	}
	wantPairs(t, m, want...)
	for i, k := range rising {
		wantGet(t, m, k, i, true)
		// k with a zero byte behind it is the very next text.
		next := k + "\x00"
		if !slices.Contains(rising, next) {
			wantGet(t, m, next, 0, false)
			wantFloor(t, m, next, k, i, true)
		}
		wantRange(t, m, k, "\xff\xff", rising[i:]...)
	}
}

// Each kind of whole number, and types made of one, are keys.
func TestOtherKeys(t *testing.T) {
	type name string
	type rank uint8
	names := filled[name]("b", "a")
	wantPairs(t, names, pair[name, int]{"a", 2}, pair[name, int]{"b", 1})
	ranks := filled[rank](255, 0, 128)
	wantPairs(t, ranks, pair[rank, int]{0, 2}, pair[rank, int]{128, 3}, pair[rank, int]{255, 1})
	small := filled[int8](127, 0, -128)
	wantPairs(t, small, pair[int8, int]{-128, 3}, pair[int8, int]{0, 2}, pair[int8, int]{127, 1})
}

func TestZeroMap(t *testing.T) {
	var numbers omap.Map[int, int]
	wantNone(t, &numbers, 0, math.MinInt, math.MaxInt)
	var texts omap.Map[string, *int]
	wantNone(t, &texts, "", "a", "\xff")
	var nothings omap.Map[uint64, struct{}]
	wantNone(t, &nothings, 0, 1, math.MaxUint64)
}

// Each call is the first one of a map of its own here.
func TestFirstCallOfAZeroMap(t *testing.T) {
	zero := func() *omap.Map[string, int] { return &omap.Map[string, int]{} }
	wantLen(t, zero(), 0)
	wantGet(t, zero(), "", 0, false)
	wantDel(t, zero(), "", 0, false)
	wantFloor(t, zero(), "", "", 0, false)
	wantCeiling(t, zero(), "", "", 0, false)
	wantSeq(t, "All of a zero one", zero().All(), nil)
	wantSeq(t, "Backward of a zero one", zero().Backward(), nil)
	wantSeq(t, "Range of a zero one", zero().Range("", "\xff"), nil)
	c := zero().Clone()
	if c == nil {
		t.Fatal("4.3: Clone of a zero one is nil")
	}
	wantPut(t, c, "", 5, 0, false)
	wantPairs(t, c, pair[string, int]{"", 5})
	put := zero()
	wantPut(t, put, "", 0, 0, false)
	wantPairs(t, put, pair[string, int]{"", 0})
}

func TestPutASecondTime(t *testing.T) {
	m := filled(1, 2, 3)
	for i := range 3 {
		for k := 1; k <= 3; k++ {
			wantPut(t, m, k, 10*(i+1)+k, 10*i+k, true)
			wantGet(t, m, k, 10*(i+1)+k, true)
			wantLen(t, m, 3)
		}
	}
	wantPut(t, m, 2, 0, 32, true)
	wantPut(t, m, 2, 0, 0, true)
	wantPairs(t, m, pair[int, int]{1, 31}, pair[int, int]{2, 0}, pair[int, int]{3, 33})
}

// A zero key and a zero value that were put are there: true tells them from none.
func TestZeroKeysAndValuesAreThere(t *testing.T) {
	m := &omap.Map[int, any]{}
	wantPut(t, m, 0, nil, nil, false)
	wantPut(t, m, 0, nil, nil, true)
	wantGet(t, m, 0, nil, true)
	wantFloor(t, m, 0, 0, nil, true)
	wantCeiling(t, m, 0, 0, nil, true)
	wantPairs(t, m, pair[int, any]{0, nil})
	wantDel(t, m, 0, nil, true)
	wantNone(t, m, 0, 1)
}

// inTurn tells the numbers below n in one of three orders: rising, falling, from either end in turn.
func inTurn(n, order int) []int {
	var told []int
	for i := range n {
		told = append(told, []int{i, n - 1 - i, i/2 + i%2*(n-1-2*(i/2))}[order])
	}
	return told
}

func TestAllDeletedAndPutAgain(t *testing.T) {
	var m omap.Map[int, int]
	for round := range 6 {
		n := 1 + 6*round
		for _, k := range inTurn(n, round%3) {
			wantPut(t, &m, k, round, 0, false)
		}
		wantLen(t, &m, n)
		for i, k := range inTurn(n, (round+1)%3) {
			wantDel(t, &m, k, round, true)
			wantDel(t, &m, k, 0, false)
			wantLen(t, &m, n-1-i)
		}
		wantNone(t, &m, -1, 0, 3, n)
	}
	wantPut(t, &m, -5, 55, 0, false)
	wantPairs(t, &m, pair[int, int]{-5, 55})
}

func TestFloorAndCeiling(t *testing.T) {
	m := filled(10, 20, 30, 40, 50, 60, 70)
	for k := -5; k <= 85; k++ {
		// Key 10 * i has the value i.
		if i := k / 10; k < 10 {
			wantFloor(t, m, k, 0, 0, false)
		} else {
			i = min(i, 7)
			wantFloor(t, m, k, 10*i, i, true)
		}
		if i := (k + 9) / 10; k > 70 {
			wantCeiling(t, m, k, 0, 0, false)
		} else {
			i = max(i, 1)
			wantCeiling(t, m, k, 10*i, i, true)
		}
	}
	wantLen(t, m, 7)
}

func TestLeastAndGreatestNumbers(t *testing.T) {
	const least, greatest = math.MinInt64, math.MaxInt64
	m := filled[int64](greatest, 0, least)
	wantPairs(t, m, pair[int64, int]{least, 3}, pair[int64, int]{0, 2}, pair[int64, int]{greatest, 1})
	wantFloor(t, m, least, least, 3, true)
	wantCeiling(t, m, least, least, 3, true)
	wantFloor(t, m, greatest, greatest, 1, true)
	wantCeiling(t, m, greatest, greatest, 1, true)
	wantFloor(t, m, greatest-1, 0, 2, true)
	wantCeiling(t, m, least+1, 0, 2, true)
	wantFloor(t, m, -1, least, 3, true)
	wantCeiling(t, m, 1, greatest, 1, true)
	wantRange(t, m, least, greatest, least, 0, greatest)
	wantRange(t, m, greatest, least)
	wantRange(t, m, least, least, least)
	wantRange(t, m, greatest, greatest, greatest)
	wantDel(t, m, least, 3, true)
	wantDel(t, m, greatest, 1, true)
	wantFloor(t, m, -1, 0, 0, false)
	wantCeiling(t, m, 1, 0, 0, false)
	words := filled[uint64](math.MaxUint64, 0, 1<<63)
	wantPairs(t, words, pair[uint64, int]{0, 2}, pair[uint64, int]{1 << 63, 3}, pair[uint64, int]{math.MaxUint64, 1})
	wantFloor(t, words, 1<<63-1, 0, 2, true)
	wantCeiling(t, words, 1<<63+1, math.MaxUint64, 1, true)
}

func TestRange(t *testing.T) {
	m := filled(60, 20, 40, 10, 30, 50)
	wantRange(t, m, 20, 40, 20, 30, 40)
	wantRange(t, m, 15, 45, 20, 30, 40)
	wantRange(t, m, 15, 40, 20, 30, 40)
	wantRange(t, m, 20, 45, 20, 30, 40)
	wantRange(t, m, 10, 60, 10, 20, 30, 40, 50, 60)
	wantRange(t, m, -9, 99, 10, 20, 30, 40, 50, 60)
	wantRange(t, m, 30, 30, 30)
	wantRange(t, m, 35, 35)
	wantRange(t, m, 31, 39)
	wantRange(t, m, 40, 20)
	wantRange(t, m, 45, 15)
	wantRange(t, m, 60, 10)
	wantRange(t, m, 31, 30)
	wantRange(t, m, -9, 9)
	wantRange(t, m, 61, 99)
	wantRange(t, m, -9, 10, 10)
	wantRange(t, m, 60, 99, 60)
}

// leftAt goes through seq up to the key last and tells the keys that it met.
func leftAt[K cmp.Ordered, V any](seq iter.Seq2[K, V], last K) []K {
	var seen []K
	for k := range seq {
		seen = append(seen, k)
		if k == last {
			break
		}
	}
	return seen
}

func TestLoopsAreLeftEarly(t *testing.T) {
	m := filled("d", "b", "f", "a", "c", "e", "g")
	rising := []string{"a", "b", "c", "d", "e", "f", "g"}
	falling := slices.Clone(rising)
	slices.Reverse(falling)
	for _, loop := range []struct {
		name string
		seq  iter.Seq2[string, int]
		keys []string
	}{
		{"All", m.All(), rising},
		{"Backward", m.Backward(), falling},
		{"Range over all", m.Range("", "z"), rising},
		{"Range over some", m.Range("b", "f"), rising[1:6]},
	} {
		for i, last := range loop.keys {
			// The same iterator, time and again: each time it begins at its first.
			if seen := leftAt(loop.seq, last); !slices.Equal(seen, loop.keys[:i+1]) {
				t.Errorf("4.3: %s, left at %s, is %v", loop.name, last, seen)
			}
		}
		if seen := leftAt(loop.seq, "none"); !slices.Equal(seen, loop.keys) {
			t.Errorf("4.3: %s, behind loops that were left, is %v", loop.name, seen)
		}
	}
	wantLen(t, m, 7)
	wantDel(t, m, "d", 1, true)
	wantRange(t, m, "", "z", "a", "b", "c", "e", "f", "g")
}

func TestLoopsWithinOneAnother(t *testing.T) {
	m := filled(1, 2, 3)
	var seen []int
	for x := range m.All() {
		for y := range m.Backward() {
			if y < x {
				break
			}
			for z := range m.Range(x, y) {
				seen = append(seen, 100*x+10*y+z)
			}
		}
	}
	if want := []int{131, 132, 133, 121, 122, 111, 232, 233, 222, 333}; !slices.Equal(seen, want) {
		t.Errorf("4.3: three loops at once see %v, not %v", seen, want)
	}
}

// What such loops see is not said; they end, and the calls within them do what they do anywhere.
func TestChangesOnTheWayDoNotPanic(t *testing.T) {
	for _, seqOf := range []func(m *omap.Map[int, int]) iter.Seq2[int, int]{
		func(m *omap.Map[int, int]) iter.Seq2[int, int] { return m.All() },
		func(m *omap.Map[int, int]) iter.Seq2[int, int] { return m.Backward() },
		func(m *omap.Map[int, int]) iter.Seq2[int, int] { return m.Range(0, 1<<40) },
	} {
		m := filled(1, 2, 3, 4, 5, 6)
		rounds := 0
		for k := range seqOf(m) {
			rounds++
			if rounds > 1000 {
				t.Fatal("0.1: a loop that puts doesn't end")
			}
			wantDel(t, m, k, k, true)
			wantPut(t, m, k+100*rounds, 0, 0, false)
			wantPut(t, m, -k-100*rounds, 0, 0, false)
		}
		for range seqOf(m) {
			for k := -2000; k < 2000; k++ {
				m.Del(k)
			}
		}
		wantNone(t, m, -1, 1, 100)
	}
}

func TestCloneAndMapDoNotSeeOneAnother(t *testing.T) {
	m := filled(1, 2, 3, 4)
	c := m.Clone()
	wantPairs(t, c, collect(m.All())...)
	wantPut(t, m, 2, 20, 2, true)
	wantPut(t, c, 3, 30, 3, true)
	wantDel(t, m, 1, 1, true)
	wantDel(t, c, 4, 4, true)
	wantPut(t, m, 9, 90, 0, false)
	wantPut(t, c, 0, 5, 0, false)
	wantPairs(t, m, pair[int, int]{2, 20}, pair[int, int]{3, 3}, pair[int, int]{4, 4}, pair[int, int]{9, 90})
	wantPairs(t, c, pair[int, int]{0, 5}, pair[int, int]{1, 1}, pair[int, int]{2, 2}, pair[int, int]{3, 30})
	// A clone of the clone, and the first one emptied behind it.
	d := c.Clone()
	for k := range 10 {
		c.Del(k)
	}
	wantNone(t, c, 0, 1, 9)
	wantPairs(t, d, pair[int, int]{0, 5}, pair[int, int]{1, 1}, pair[int, int]{2, 2}, pair[int, int]{3, 30})
	wantPut(t, c, 1, 7, 0, false)
	wantGet(t, d, 1, 1, true)
	wantLen(t, m, 4)
}

// A loop over a map is its own, not the clone's.
func TestCloneIsChangedWithinALoop(t *testing.T) {
	m := filled(1, 2, 3, 4, 5)
	c := m.Clone()
	var seen []int
	for k := range m.All() {
		seen = append(seen, k)
		c.Del(k + 1)
		c.Put(-k, k)
	}
	if !slices.Equal(seen, []int{1, 2, 3, 4, 5}) {
		t.Errorf("4.3: a loop whose map's clone is changed sees %v", seen)
	}
	wantRange(t, c, -9, 9, -5, -4, -3, -2, -1, 1)
}

func TestWhatIsNotThereTimeAndAgain(t *testing.T) {
	m := filled(10, 20, 30)
	for range 4 {
		for _, k := range []int{9, 11, 19, 21, 31, math.MinInt, math.MaxInt} {
			wantDel(t, m, k, 0, false)
			wantGet(t, m, k, 0, false)
			wantLen(t, m, 3)
		}
		wantFloor(t, m, 9, 0, 0, false)
		wantFloor(t, m, math.MinInt, 0, 0, false)
		wantCeiling(t, m, 31, 0, 0, false)
		wantCeiling(t, m, math.MaxInt, 0, 0, false)
		wantPairs(t, m, pair[int, int]{10, 1}, pair[int, int]{20, 2}, pair[int, int]{30, 3})
	}
}

// wantLike holds each call that asks against a plain map, at the key k and at those beside it.
func wantLike(t *testing.T, m *omap.Map[string, int], plain map[string]int, k string) {
	t.Helper()
	keys := slices.Sorted(maps.Keys(plain))
	v, is := plain[k]
	wantGet(t, m, k, v, is)
	wantLen(t, m, len(keys))
	at, found := slices.BinarySearch(keys, k)
	if at < len(keys) {
		wantCeiling(t, m, k, keys[at], plain[keys[at]], true)
	} else {
		wantCeiling(t, m, k, "", 0, false)
	}
	below := at - 1
	if found {
		below = at
	}
	if below >= 0 {
		wantFloor(t, m, k, keys[below], plain[keys[below]], true)
	} else {
		wantFloor(t, m, k, "", 0, false)
	}
	hi := min(at+5, len(keys))
	if at < hi {
		wantRange(t, m, k, keys[hi-1], keys[at:hi]...)
	}
}

// A long run in a fixed pattern, held against a plain map; clones are held against what they were, at the end.
func TestLongRunAgainstAPlainMap(t *testing.T) {
	var m omap.Map[string, int]
	plain := map[string]int{}
	var clones []*omap.Map[string, int]
	var copies []map[string]int
	state := uint32(1)
	for i := range 8000 {
		state = state*1664525 + 1013904223
		k := strconv.Itoa(int(state>>16) % 200)
		old, had := plain[k]
		// A while more are put, a while more are deleted, so that the empty map is met again.
		if grows := i/1000%2 == 0; (state>>8)%8 == 0 != grows {
			wantPut(t, &m, k, i, old, had)
			plain[k] = i
		} else {
			wantDel(t, &m, k, old, had)
			delete(plain, k)
		}
		wantLike(t, &m, plain, k)
		wantLike(t, &m, plain, k+"0")
		if i%499 == 0 {
			clones = append(clones, m.Clone())
			copies = append(copies, maps.Clone(plain))
		}
	}
	for i, c := range append(clones, &m) {
		held := append(copies, plain)[i]
		var want []pair[string, int]
		for _, k := range slices.Sorted(maps.Keys(held)) {
			want = append(want, pair[string, int]{k, held[k]})
		}
		wantPairs(t, c, want...)
	}
}

// As many keys as would take too long if a call went through all of them.
func TestManyKeys(t *testing.T) {
	const n = 1 << 17
	var m omap.Map[int, int]
	for i := range n {
		m.Put(i, i)
		m.Put(-i, i)
	}
	wantLen(t, &m, 2*n-1)
	clones := 0
	for i := range n {
		clones += m.Clone().Len() - m.Len() + 1
		wantDel(t, &m, i, i, true)
	}
	if clones != n {
		t.Errorf("4.3: a clone of many keys has another Len")
	}
	wantFloor(t, &m, n, -1, 1, true)
	wantRange(t, &m, -3, n, -3, -2, -1)
}
