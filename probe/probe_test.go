package probe_test

import (
	"math"
	"math/big"
	"slices"
	"testing"

	"ordinate/probe"
)

const (
	least = math.MinInt64
	most  = math.MaxInt64
	// mostKeys is how many keys a list has at most.
	mostKeys = 65536
)

// short tells a long list by its ends, so that a fault can be read.
func short[T any](q []T) any {
	if len(q) <= 24 {
		return q
	}
	return []any{len(q), q[:8], q[len(q)-8:]}
}

func wantRight(t *testing.T, q []int64, want bool) {
	t.Helper()
	if got := probe.Right(q); got != want {
		t.Errorf("6.1: Right(%v) is %t", short(q), got)
	}
}

func wantFind(t *testing.T, q []int64, k int64, want int) {
	t.Helper()
	if got := probe.Find(q, k); got != want {
		t.Errorf("6.1: Find(%v, %d) is %d, not %d", short(q), k, got, want)
	}
}

func wantGuess(t *testing.T, first, last, k int64, n, want int) {
	t.Helper()
	if got := probe.Guess(first, last, k, n); got != want {
		t.Errorf("6.2: Guess(%d, %d, %d, %d) is %d, not %d", first, last, k, n, got, want)
	}
}

func wantPath(t *testing.T, q []int64, k int64, want ...int) {
	t.Helper()
	if got := probe.Path(q, k); !slices.Equal(got, want) {
		t.Errorf("6.3: Path(%v, %d) is %v, not %v", short(q), k, short(got), short(want))
	}
}

// guessInBigNumbers is the guess of a k from first on and below last, without bounds.
func guessInBigNumbers(first, last, k int64, n int) int {
	low := big.NewInt(first)
	part := new(big.Int).Sub(big.NewInt(k), low)
	whole := new(big.Int).Sub(big.NewInt(last), low)
	part.Mul(part, big.NewInt(int64(n-1)))
	return 1 + int(part.Div(part, whole).Int64())
}

// howManyNotAbove counts one key after the other, as 6.1 says it.
func howManyNotAbove(q []int64, k int64) int {
	count := 0
	for _, key := range q {
		if key <= k {
			count++
		}
	}
	return count
}

// pathByCounting reckons the path from how many keys are not above k, not from the keys on the way.
func pathByCounting(q []int64, k int64) []int {
	n, count := len(q), howManyNotAbove(q, k)
	switch {
	case n == 0:
		return nil
	case n == 1 || count == 0:
		return []int{1}
	case count == n:
		return []int{1, n}
	}
	j := guessInBigNumbers(q[0], q[n-1], k, n)
	path := []int{1, n}
	if j > 1 {
		path = append(path, j)
	}
	for i := j + 1; i <= min(count+1, n-1); i++ {
		path = append(path, i)
	}
	for i := j - 1; j > count && i >= max(count, 2); i-- {
		path = append(path, i)
	}
	return path
}

// wantNoneTwice asks that the numbers are those of keys, and no key is looked at twice.
func wantNoneTwice(t *testing.T, q []int64, k int64, path []int) {
	t.Helper()
	seen := make([]bool, len(q)+1)
	for _, i := range path {
		if i < 1 || i > len(q) {
			t.Errorf("6.3: Path(%v, %d) looks at %d, which is no key", short(q), k, i)
			return
		}
		if seen[i] {
			t.Errorf("6.4: Path(%v, %d) looks at %d twice", short(q), k, i)
		}
		seen[i] = true
	}
}

// wantTold asks that the keys that are looked at are enough to know Find.
func wantTold(t *testing.T, q []int64, k int64, path []int) {
	t.Helper()
	notAbove, above := 0, len(q)+1
	for _, i := range path {
		if q[i-1] <= k {
			notAbove = max(notAbove, i)
		} else {
			above = min(above, i)
		}
	}
	if notAbove+1 != above {
		t.Errorf("6.3: Path(%v, %d) leaves open whether it is %d to %d", short(q), k, notAbove, above-1)
	}
}

// wantPlace asks all that is promised of a list that is right and a key.
func wantPlace(t *testing.T, q []int64, k int64) {
	t.Helper()
	before := slices.Clone(q)
	wantFind(t, q, k, howManyNotAbove(q, k))
	wantPath(t, q, k, pathByCounting(q, k)...)
	path := probe.Path(q, k)
	wantNoneTwice(t, q, k, path)
	if !t.Failed() {
		wantTold(t, q, k, path)
	}
	if !slices.Equal(q, before) {
		t.Errorf("0.3: Find or Path of %v, %d has changed the list", short(before), k)
	}
}

// around tells the keys of a list, and what stands beside them on both sides, as far as there is something.
func around(q []int64) []int64 {
	ks := []int64{least, -1, 0, 1, most}
	for _, key := range q {
		ks = append(ks, key)
		if key > least {
			ks = append(ks, key-1)
		}
		if key < most {
			ks = append(ks, key+1)
		}
	}
	slices.Sort(ks)
	return slices.Compact(ks)
}

// wantPlaces asks for each key of a list and each one beside it.
func wantPlaces(t *testing.T, q []int64) {
	t.Helper()
	wantRight(t, q, true)
	for _, k := range around(q) {
		wantPlace(t, q, k)
	}
}

// evenly tells n keys, each so much more than the one ahead.
func evenly(n int, first, more int64) []int64 {
	q := make([]int64, n)
	for i := range q {
		q[i] = first + int64(i)*more
	}
	return q
}

// downTo tells the numbers from one down to another, both too.
func downTo(from, to int) []int {
	var list []int
	for i := from; i >= to; i-- {
		list = append(list, i)
	}
	return list
}

// upTo tells the numbers from one up to another, both too.
func upTo(from, to int) []int {
	list := downTo(to, from)
	slices.Reverse(list)
	return list
}

func TestChapterExamples(t *testing.T) {
	four := []int64{10, 20, 30, 40}
	wantFind(t, four, 25, 2)
	wantPath(t, four, 25, 1, 4, 2, 3)
	wantPath(t, four, 5, 1)
	wantPath(t, four, 40, 1, 4)
	wantPath(t, []int64{7}, 9, 1)
	wantPath(t, nil, 1)
	wantPath(t, []int64{0, 1, 2, 3, 1000}, 900, 1, 5, 4)
	wantPath(t, []int64{0, 997, 998, 999, 1000}, 500, 1, 5, 3, 2)
}

func TestRightOfOrdinaryLists(t *testing.T) {
	wantRight(t, []int64{10, 20, 30, 40}, true)
	wantRight(t, []int64{-3, -2, -1, 0, 1}, true)
	wantRight(t, evenly(700, -900, 3), true)
}

func TestRightOfLeastAndGreatest(t *testing.T) {
	wantRight(t, []int64{least}, true)
	wantRight(t, []int64{most}, true)
	wantRight(t, []int64{least, most}, true)
	wantRight(t, []int64{least, least + 1, -1, 0, 1, most - 1, most}, true)
	wantRight(t, []int64{most, least}, false)
	wantRight(t, []int64{least, least}, false)
	wantRight(t, []int64{most, most}, false)
	wantRight(t, []int64{least, most, least}, false)
	wantRight(t, []int64{least, 0, most, most}, false)
}

func TestNoKeys(t *testing.T) {
	for _, q := range [][]int64{nil, {}, make([]int64, 0, 8)} {
		wantRight(t, q, true)
		for _, k := range []int64{least, -1, 0, 1, most} {
			wantFind(t, q, k, 0)
			wantPath(t, q, k)
		}
	}
}

func TestOneKey(t *testing.T) {
	for _, key := range []int64{least, -7, 0, 7, most} {
		q := []int64{key}
		wantPlaces(t, q)
		wantFind(t, q, key, 1)
		wantPath(t, q, key, 1)
		if key > least {
			wantFind(t, q, key-1, 0)
			wantPath(t, q, key-1, 1)
		}
		if key < most {
			wantFind(t, q, key+1, 1)
			wantPath(t, q, key+1, 1)
		}
	}
}

func TestTwoKeys(t *testing.T) {
	q := []int64{3, 9}
	for _, x := range []struct {
		k    int64
		find int
		path []int
	}{
		{least, 0, []int{1}}, {2, 0, []int{1}}, {3, 1, []int{1, 2}}, {4, 1, []int{1, 2}}, {8, 1, []int{1, 2}},
		{9, 2, []int{1, 2}}, {10, 2, []int{1, 2}}, {most, 2, []int{1, 2}},
	} {
		wantFind(t, q, x.k, x.find)
		wantPath(t, q, x.k, x.path...)
	}
	wantPlaces(t, q)
	wantPlaces(t, []int64{5, 6})
	wantPlaces(t, []int64{least, most})
	wantPlaces(t, []int64{least, least + 1})
	wantPlaces(t, []int64{most - 1, most})
}

func TestThreeKeys(t *testing.T) {
	q := []int64{3, 5, 11}
	for _, x := range []struct {
		k    int64
		find int
		path []int
	}{
		{2, 0, []int{1}}, {3, 1, []int{1, 3, 2}}, {4, 1, []int{1, 3, 2}}, {5, 2, []int{1, 3, 2}}, {6, 2, []int{1, 3, 2}},
		{7, 2, []int{1, 3, 2}}, {10, 2, []int{1, 3, 2}}, {11, 3, []int{1, 3}}, {12, 3, []int{1, 3}},
	} {
		wantFind(t, q, x.k, x.find)
		wantPath(t, q, x.k, x.path...)
	}
	wantPlaces(t, q)
	// The guess is 2, and that key is above k: 1 is not looked at again.
	wantPath(t, []int64{3, 10, 11}, 8, 1, 3, 2)
	wantPlaces(t, []int64{3, 10, 11})
	wantPlaces(t, []int64{0, 1, 2})
	wantPlaces(t, []int64{least, 0, most})
	wantPlaces(t, []int64{least, least + 1, most})
	wantPlaces(t, []int64{least, most - 1, most})
}

func TestAtTheEndsOfAList(t *testing.T) {
	q := []int64{10, 20, 30, 40, 50, 60}
	wantFind(t, q, 9, 0)
	wantPath(t, q, 9, 1)
	wantFind(t, q, 10, 1)
	wantPath(t, q, 10, 1, 6, 2)
	wantFind(t, q, 59, 5)
	wantPath(t, q, 59, 1, 6, 5)
	wantFind(t, q, 60, 6)
	wantPath(t, q, 60, 1, 6)
	wantFind(t, q, 61, 6)
	wantPath(t, q, 61, 1, 6)
}

func TestWalkUp(t *testing.T) {
	q := []int64{0, 1, 2, 3, 4, 5, 1000}
	// The guess is 1, which has been looked at already.
	wantPath(t, q, 0, 1, 7, 2)
	wantPath(t, q, 1, 1, 7, 2, 3)
	wantPath(t, q, 3, 1, 7, 2, 3, 4, 5)
	wantPath(t, q, 4, 1, 7, 2, 3, 4, 5, 6)
	// The walk ends ahead of n, which is known to be above k.
	wantPath(t, q, 5, 1, 7, 2, 3, 4, 5, 6)
	wantPath(t, q, 166, 1, 7, 2, 3, 4, 5, 6)
	// The guess is 2, and of 500 it is 4: from there it goes up.
	wantPath(t, q, 167, 1, 7, 2, 3, 4, 5, 6)
	wantPath(t, q, 500, 1, 7, 4, 5, 6)
	// The guess is n - 1.
	wantPath(t, q, 834, 1, 7, 6)
	wantPath(t, q, 999, 1, 7, 6)
	wantPath(t, []int64{0, 10, 20, 90, 100}, 30, 1, 5, 2, 3, 4)
}

func TestWalkDown(t *testing.T) {
	q := []int64{0, 995, 996, 997, 998, 999, 1000}
	// The guess is n - 1, and that key is above k, or just it.
	wantPath(t, q, 999, 1, 7, 6)
	wantPath(t, q, 998, 1, 7, 6, 5)
	wantPath(t, q, 996, 1, 7, 6, 5, 4, 3)
	wantPath(t, q, 995, 1, 7, 6, 5, 4, 3, 2)
	// The walk ends behind 1, which is known not to be above k.
	wantPath(t, q, 994, 1, 7, 6, 5, 4, 3, 2)
	wantPath(t, q, 500, 1, 7, 4, 3, 2)
	wantPath(t, q, 334, 1, 7, 3, 2)
	wantPath(t, q, 167, 1, 7, 2)
	wantPath(t, q, 166, 1, 7, 2)
	wantPath(t, q, 0, 1, 7, 2)
	wantPath(t, []int64{0, 10, 80, 90, 100}, 70, 1, 5, 3, 2)
}

func TestAllListsOfSmallNumbers(t *testing.T) {
	for set := range 1 << 10 {
		var q []int64
		for i := range 10 {
			if set>>i&1 == 1 {
				q = append(q, int64(i-4))
			}
		}
		wantRight(t, q, true)
		for k := int64(-6); k <= 7; k++ {
			wantPlace(t, q, k)
		}
	}
}

func TestHundredsOfKeysThatLieEvenly(t *testing.T) {
	for _, n := range []int{100, 255, 256, 257, 700} {
		wantPlaces(t, evenly(n, -50, 1))
		wantPlaces(t, evenly(n, -1234, 10))
		wantPlaces(t, evenly(n, least, most/1000))
	}
	// The guess is right, but for the look at the next one.
	wantPath(t, evenly(500, 0, 10), 2345, 1, 500, 235, 236)
	wantPath(t, evenly(500, 0, 10), 2340, 1, 500, 235, 236)
}

func TestHundredsOfKeysThatLieUnevenly(t *testing.T) {
	var squares, clumps, falling []int64
	for i := range int64(300) {
		squares = append(squares, i*i-20)
		clumps = append(clumps, i/50*100000+i%50)
		falling = append(falling, 90000-(300-i)*(300-i))
	}
	wantPlaces(t, squares)
	wantPlaces(t, clumps)
	wantPlaces(t, falling)
	wantPath(t, falling, 1, 1, 300, 2)
	wantPath(t, squares, 40, 1, 300, 2, 3, 4, 5, 6, 7, 8, 9)
}

func TestKeysThatDouble(t *testing.T) {
	var up []int64
	for i := range 63 {
		up = append(up, 1<<i)
	}
	wantPlaces(t, up)
	var down []int64
	for _, key := range slices.Backward(up) {
		down = append(down, -key)
	}
	wantPlaces(t, down)
	wantPlaces(t, slices.Concat([]int64{least}, down, []int64{0}, up, []int64{most}))
}

func TestListsByARule(t *testing.T) {
	seed := uint64(1)
	next := func() uint64 {
		seed = seed*6364136223846793005 + 1442695040888963407
		return seed >> 1
	}
	for round := range 300 {
		var q []int64
		for range round % 40 {
			// Numbers of all lengths, by a fixed rule: any would do, these are the same each time.
			key := int64(next() >> (next() >> 20 % 60))
			if next()>>20%2 == 0 {
				key = -key
			}
			q = append(q, key)
		}
		slices.Sort(q)
		wantPlaces(t, slices.Compact(q))
	}
}

func TestLeastAndGreatestAsKeys(t *testing.T) {
	wantPlaces(t, []int64{least, least + 1, least + 2, most - 2, most - 1, most})
	wantPlaces(t, []int64{least, -1, 0, 1, most})
	q := []int64{least, -4, -3, -2, -1, 0, 1, 2, 3, most}
	wantPlaces(t, q)
	wantPath(t, q, most, 1, 10)
	wantPath(t, q, most-1, 1, 10, 9)
	wantPath(t, q, least, 1, 10, 2)
	wantPath(t, q, 0, 1, 10, 5, 6, 7)
	wantFind(t, q, least, 1)
	wantFind(t, q, most, 10)
	wantFind(t, []int64{least + 1, 0}, least, 0)
	wantPath(t, []int64{least + 1, 0}, least, 1)
}

func TestTheMostKeys(t *testing.T) {
	const n = mostKeys
	q := evenly(n, -100000, 3)
	wantRight(t, q, true)
	for _, i := range []int{0, 1, 2, n / 3, n / 2, n - 3, n - 2, n - 1} {
		for _, beside := range []int64{-1, 0, 1} {
			wantPlace(t, q, q[i]+beside)
		}
	}
	wantPlace(t, q, least)
	wantPlace(t, q, most)
	wantFind(t, q, q[n-1], n)
	wantPath(t, q, q[n-1], 1, n)
	wantPath(t, q, q[n-1]-1, 1, n, n-1)
}

// TestTheLongestWalks: each key of the longest list is looked at, once.
func TestTheLongestWalks(t *testing.T) {
	const n = mostKeys
	up := evenly(n, least, 1)
	up[n-1] = most
	wantPlace(t, up, up[n-2])
	wantPath(t, up, up[n-2], slices.Concat([]int{1, n}, upTo(2, n-1))...)
	wantPath(t, up, least, 1, n, 2)
	down := evenly(n, most-n+1, 1)
	down[0] = least
	wantPlace(t, down, down[1]-1)
	wantPath(t, down, down[1]-1, slices.Concat([]int{1, n}, downTo(n-1, 2))...)
	wantPath(t, down, down[1], slices.Concat([]int{1, n}, downTo(n-1, 2))...)
	wantPath(t, down, most-1, 1, n, n-1)
}

func TestOneKeyTooMany(t *testing.T) {
	q := evenly(mostKeys+1, 0, 2)
	for _, list := range [][]int64{q, evenly(mostKeys+2, least, 1), evenly(2*mostKeys, 0, 5)} {
		wantRight(t, list, false)
		for _, k := range []int64{least, -1, 0, 1, 1000, 2 * mostKeys, most} {
			wantFind(t, list, k, 0)
			wantPath(t, list, k)
		}
	}
	wantRight(t, q[:mostKeys], true)
	wantRight(t, q[1:], true)
	wantFind(t, q[:mostKeys], most, mostKeys)
	wantPath(t, q[1:], most, 1, mostKeys)
}

func TestGuessOfOrdinaryNumbers(t *testing.T) {
	for _, x := range []struct {
		k    int64
		want int
	}{{9, 0}, {10, 1}, {11, 1}, {19, 1}, {20, 2}, {25, 2}, {29, 2}, {30, 3}, {39, 3}, {40, 0}, {41, 0}} {
		wantGuess(t, 10, 40, x.k, 4, x.want)
	}
	wantGuess(t, -1000, 1000, 0, 101, 51)
	wantGuess(t, -1000, 1000, -1, 101, 50)
	wantGuess(t, 0, 1000, 997, 500, 498)
	wantGuess(t, 0, 1000, 500, 5, 3)
	wantGuess(t, 0, 1000, 900, 5, 4)
	// More keys than there are numbers: what is reckoned stands all the same.
	wantGuess(t, 0, 3, 0, 10, 1)
	wantGuess(t, 0, 3, 1, 10, 4)
	wantGuess(t, 0, 3, 2, 10, 7)
}

func TestGuessOfNumbersOfKeysAtTheEdges(t *testing.T) {
	for _, k := range []int64{0, 1, 5, 8} {
		wantGuess(t, 0, 9, k, 1, 0)
		wantGuess(t, 0, 9, k, 2, 1)
		wantGuess(t, 0, 9, k, mostKeys-1, guessInBigNumbers(0, 9, k, mostKeys-1))
		wantGuess(t, 0, 9, k, mostKeys, guessInBigNumbers(0, 9, k, mostKeys))
		wantGuess(t, 0, 9, k, mostKeys+1, 0)
	}
	wantGuess(t, 0, 9, 2, 3, 1)
	wantGuess(t, 0, 9, 4, 3, 1)
	wantGuess(t, 0, 9, 5, 3, 2)
	wantGuess(t, 0, mostKeys-1, 0, mostKeys, 1)
	wantGuess(t, 0, mostKeys-1, 1, mostKeys, 2)
	wantGuess(t, 0, mostKeys-1, mostKeys-2, mostKeys, mostKeys-1)
	wantGuess(t, 0, 1, 0, mostKeys, 1)
}

func TestGuessOfNumbersOfKeysThatMayNotBe(t *testing.T) {
	for _, n := range []int{math.MinInt, math.MinInt + 1, -1 << 32, -mostKeys, -4, -2, -1, 0, 1, mostKeys + 1, mostKeys + 2, 1 << 17, 1 << 32, 1<<32 + 4, math.MaxInt - 1, math.MaxInt} {
		for _, k := range []int64{least, -1, 0, 1, 5, 8, 9, 10, most} {
			wantGuess(t, 0, 9, k, n, 0)
			wantGuess(t, least, most, k, n, 0)
			wantGuess(t, most, least, k, n, 0)
		}
	}
}

func TestGuessOfAKeyThatIsNotBetween(t *testing.T) {
	for _, n := range []int{2, 3, 4, 1000, mostKeys} {
		wantGuess(t, 10, 40, 9, n, 0)
		wantGuess(t, 10, 40, least, n, 0)
		wantGuess(t, 10, 40, 40, n, 0)
		wantGuess(t, 10, 40, 41, n, 0)
		wantGuess(t, 10, 40, most, n, 0)
		wantGuess(t, least, most, most, n, 0)
		wantGuess(t, least+1, most, least, n, 0)
		// Between first and last no k lies.
		for _, k := range []int64{least, 4, 5, 6, 9, 10, 11, 25, 39, 40, 41, most} {
			wantGuess(t, 40, 10, k, n, 0)
			wantGuess(t, 5, 5, k, n, 0)
			wantGuess(t, most, least, k, n, 0)
			wantGuess(t, least, least, k, n, 0)
			wantGuess(t, most, most, k, n, 0)
		}
	}
}

func TestGuessOfLeastAndGreatest(t *testing.T) {
	// The distance from first to last has no place in 64 bits with a sign.
	wantGuess(t, least, most, least, 5, 1)
	wantGuess(t, least, most, -1, 5, 2)
	wantGuess(t, least, most, 0, 5, 3)
	wantGuess(t, least, most, most-1, 5, 4)
	wantGuess(t, least, most, most-1, 2, 1)
	wantGuess(t, least, most, most-1, mostKeys, mostKeys-1)
	wantGuess(t, least, most, -1, 3, 1)
	wantGuess(t, least, most, 0, 3, 2)
	wantGuess(t, -1<<62, 1<<62, 0, 5, 3)
	wantGuess(t, -1<<62, 1<<62, -1, 5, 2)
	wantGuess(t, least, 0, -1, 9, 8)
	wantGuess(t, least, 0, least, 9, 1)
	wantGuess(t, -1, most, most-1, 9, 8)
	wantGuess(t, most-1, most, most-1, 9, 1)
	wantGuess(t, least, least+1, least, 9, 1)
}

func TestGuessAgainstBigNumbers(t *testing.T) {
	seed, n := uint64(1), 1
	for i := range 200000 {
		// Numbers of all lengths by a fixed rule: any would do, these are the same each time.
		three := make([]int64, 3)
		for j := range three {
			seed = seed*6364136223846793005 + 1442695040888963407
			three[j] = int64(seed) >> (i % 61)
		}
		n = n * 75 % 65537
		slices.Sort(three)
		first, k, last := three[0], three[1], three[2]
		if k == last || n < 2 {
			wantGuess(t, first, last, k, n, 0)
			continue
		}
		wantGuess(t, first, last, k, n, guessInBigNumbers(first, last, k, n))
		if got := probe.Guess(first, last, k, n); got < 1 || got > n-1 {
			t.Errorf("6.2: Guess(%d, %d, %d, %d) is %d, not 1 to n - 1", first, last, k, n, got)
		}
	}
}

// wantNone asks that a list is not right, nothing is found in it, nothing is looked at, and nothing has changed.
func wantNone(t *testing.T, q []int64) {
	t.Helper()
	before := slices.Clone(q)
	wantRight(t, q, false)
	for _, k := range []int64{least, -1, 0, 1, 2, 5, 10, 25, 40, 1000, most} {
		wantFind(t, q, k, 0)
		wantPath(t, q, k)
	}
	if !slices.Equal(q, before) {
		t.Errorf("0.3: a call has changed the list %v", short(before))
	}
}

func TestShortListsThatAreNotAscending(t *testing.T) {
	for _, q := range [][]int64{
		{1, 1}, {2, 1}, {0, 0}, {1, 1, 2}, {1, 2, 2}, {2, 1, 3}, {1, 3, 2}, {3, 2, 1}, {5, 5, 5},
		{10, 10, 20, 30, 40}, {10, 20, 20, 30, 40}, {10, 20, 30, 40, 40},
		{10, 9, 20, 30, 40}, {10, 20, 30, 29, 40}, {10, 20, 30, 40, 39}, {10, 20, 30, 40, 5}, {50, 20, 30, 40, 60},
		{least, least}, {most, most}, {most, least}, {least, most, least}, {0, least}, {most, 0},
	} {
		wantNone(t, q)
	}
}

// TestLongListsThatAreNotAscending lays one fault at each place of a list, two alike and one that falls.
func TestLongListsThatAreNotAscending(t *testing.T) {
	for i := 1; i < 300; i++ {
		q := evenly(300, -500, 10)
		q[i] = q[i-1]
		wantNone(t, q)
		q[i] = q[i-1] - 1
		wantNone(t, q)
		q[i] = least
		wantNone(t, q)
	}
	for _, i := range []int{1, mostKeys / 2, mostKeys - 1} {
		q := evenly(mostKeys, -500, 10)
		q[i] = q[i-1]
		wantNone(t, q)
	}
}

func TestAnswersAreNewMemory(t *testing.T) {
	q := []int64{0, 997, 998, 999, 1000}
	for _, k := range []int64{-1, 0, 500, 999, 1000, 1001} {
		one, other := probe.Path(q, k), probe.Path(q, k)
		before := slices.Clone(other)
		for i := range one {
			one[i] = -1
		}
		_ = append(one[:0], 7, 7, 7, 7, 7)
		if !slices.Equal(other, before) {
			t.Errorf("0.3: two answers of Path(%v, %d) share memory", q, k)
		}
		wantPath(t, q, k, before...)
	}
}

func TestListsAreNotKept(t *testing.T) {
	q := []int64{10, 20, 30, 40}
	wantPlaces(t, q)
	copy(q, []int64{0, 1, 2, 1000})
	wantPath(t, q, 900, 1, 4, 3)
	wantPlaces(t, q)
	q[1] = 0
	wantNone(t, q)
}
