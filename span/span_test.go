package span_test

import (
	"math"
	"math/big"
	"testing"

	"ordinate/span"
)

const (
	least = math.MinInt64
	most  = math.MaxInt64
	// rootOfMost is the greatest number whose square is an int.
	rootOfMost = 3037000499
)

func wantGap(t *testing.T, a, b int64, want uint64) {
	t.Helper()
	if got := span.Gap(a, b); got != want {
		t.Errorf("2.1: Gap(%d, %d) is %d, not %d", a, b, got, want)
	}
}

func wantShare(t *testing.T, part, whole uint64, n, want int) {
	t.Helper()
	if got := span.Share(part, whole, n); got != want {
		t.Errorf("2.1: Share(%d, %d, %d) is %d, not %d", part, whole, n, got, want)
	}
}

func wantRoot(t *testing.T, n, want int) {
	t.Helper()
	if got := span.Root(n); got != want {
		t.Errorf("2.2: Root(%d) is %d, not %d", n, got, want)
	}
}

func wantBits(t *testing.T, n, want int) {
	t.Helper()
	if got := span.Bits(n); got != want {
		t.Errorf("2.2: Bits(%d) is %d, not %d", n, got, want)
	}
}

// wantPlus and wantTimes ask both ways round: neither hangs on which one comes first.
func wantPlus(t *testing.T, a, b, want int) {
	t.Helper()
	if one, other := span.Plus(a, b), span.Plus(b, a); one != want || other != want {
		t.Errorf("2.2: Plus of %d and %d is %d, the other way round %d, not %d", a, b, one, other, want)
	}
}

func wantTimes(t *testing.T, a, b, want int) {
	t.Helper()
	if one, other := span.Times(a, b), span.Times(b, a); one != want || other != want {
		t.Errorf("2.2: Times of %d and %d is %d, the other way round %d, not %d", a, b, one, other, want)
	}
}

func TestChapterExamples(t *testing.T) {
	wantGap(t, -9223372036854775808, 9223372036854775807, 18446744073709551615)
	wantGap(t, 1, 0, 0)
	wantShare(t, 3, 10, 7, 2)
	wantShare(t, 18446744073709551614, 18446744073709551615, 5, 4)
	wantShare(t, 9, 3, 4, 4)
	wantShare(t, 1, 0, 1, 0)
	wantRoot(t, 15, 3)
	wantRoot(t, 16, 4)
	wantBits(t, 7, 3)
	wantBits(t, 8, 4)
	wantTimes(t, 9223372036854775807, 2, 9223372036854775807)
	wantPlus(t, -1, 5, 0)
}

func TestGapOfOrdinaryNumbers(t *testing.T) {
	wantGap(t, 3, 10, 7)
	wantGap(t, -10, -3, 7)
	wantGap(t, -10, 3, 13)
	wantGap(t, 10, 3, 0)
	wantGap(t, 3, -10, 0)
	wantGap(t, 1<<40, 1<<41+1, 1<<40+1)
}

func TestGapOfNeighbours(t *testing.T) {
	for _, a := range []int64{least + 1, -1 << 32, -2, -1, 0, 1, 2, 1 << 32, most - 1} {
		wantGap(t, a, a-1, 0)
		wantGap(t, a, a, 0)
		wantGap(t, a, a+1, 1)
	}
	for _, a := range []int64{least, most} {
		wantGap(t, a, a, 0)
	}
}

func TestGapOfLeastAndGreatest(t *testing.T) {
	wantGap(t, least, most, math.MaxUint64)
	wantGap(t, least, most-1, math.MaxUint64-1)
	wantGap(t, least+1, most, math.MaxUint64-1)
	wantGap(t, most, least, 0)
	wantGap(t, least, -1, most)
	wantGap(t, least, 0, 1<<63)
	wantGap(t, 0, most, most)
	wantGap(t, -1, most, 1<<63)
	wantGap(t, 0, least, 0)
	wantGap(t, most, 0, 0)
	wantGap(t, least, least+1, 1)
	wantGap(t, most-1, most, 1)
	wantGap(t, least+1, least, 0)
	wantGap(t, most, most-1, 0)
}

func TestShareOfOrdinaryNumbers(t *testing.T) {
	wantShare(t, 1, 2, 10, 5)
	wantShare(t, 1, 3, 10, 3)
	wantShare(t, 2, 3, 10, 6)
	wantShare(t, 99, 100, 10, 9)
	wantShare(t, 250, 1000, 65536, 16384)
	wantShare(t, 1<<40, 1<<41, 9, 4)
}

func TestShareOfNoneAndOfAllAndOfMore(t *testing.T) {
	for _, n := range []int{1, 2, 7, 65535, 65536} {
		for _, whole := range []uint64{1, 2, 10, 1 << 32, 1 << 48, 1<<63 - 1, 1 << 63, math.MaxUint64 - 1, math.MaxUint64} {
			wantShare(t, 0, whole, n, 0)
			wantShare(t, whole-1, whole, n, shareInBigNumbers(whole-1, whole, n))
			wantShare(t, whole, whole, n, n)
			wantShare(t, math.MaxUint64, whole, n, n)
			if whole < math.MaxUint64 {
				wantShare(t, whole+1, whole, n, n)
			}
		}
	}
}

func TestShareOfTheGreatestWhole(t *testing.T) {
	const whole = math.MaxUint64
	wantShare(t, whole, whole, 1, 1)
	wantShare(t, whole-1, whole, 1, 0)
	wantShare(t, whole, whole, 65536, 65536)
	wantShare(t, whole-1, whole, 65536, 65535)
	wantShare(t, 1, whole, 65536, 0)
	wantShare(t, 1<<48-1, whole, 65536, 0)
	// The whole is a bit less than 2^64, so 2^48 is already one of 65536 shares.
	wantShare(t, 1<<48, whole, 65536, 1)
	wantShare(t, 1<<63-1, whole, 2, 0)
	wantShare(t, 1<<63, whole, 2, 1)
	wantShare(t, whole/3, whole, 3, 1)
	wantShare(t, whole/3-1, whole, 3, 0)
}

func TestShareOfNumbersOfSharesAtTheEdges(t *testing.T) {
	wantShare(t, 5, 9, 1, 0)
	wantShare(t, 9, 9, 1, 1)
	wantShare(t, 5, 9, 65536, 36408)
	for _, n := range []int{math.MinInt, math.MinInt + 1, -1 << 32, -65536, -1, 0, 65537, 1 << 17, 1 << 32, 1<<32 + 1, math.MaxInt} {
		wantShare(t, 0, 9, n, 0)
		wantShare(t, 5, 9, n, 0)
		wantShare(t, 9, 9, n, 0)
		wantShare(t, 10, 9, n, 0)
		wantShare(t, math.MaxUint64, math.MaxUint64, n, 0)
		wantShare(t, 1, 0, n, 0)
	}
}

func TestShareOfNoWhole(t *testing.T) {
	for _, part := range []uint64{0, 1, 9, math.MaxUint64} {
		for _, n := range []int{1, 7, 65536} {
			wantShare(t, part, 0, n, 0)
		}
	}
}

func shareInBigNumbers(part, whole uint64, n int) int {
	product := new(big.Int).SetUint64(min(part, whole))
	product.Mul(product, big.NewInt(int64(n)))
	return int(product.Div(product, new(big.Int).SetUint64(whole)).Int64())
}

func TestShareAgainstBigNumbers(t *testing.T) {
	part, whole, n := uint64(1), uint64(1), 1
	for i := range 200000 {
		// Numbers of all lengths by a fixed rule: any would do, these are the same each time.
		part = part*6364136223846793005 + 1442695040888963407
		whole = whole*3202034522624059733 + 1
		n = n * 75 % 65537
		p, w := part>>(i%64), whole>>(i/64%64)
		if w > 0 {
			wantShare(t, p, w, n, shareInBigNumbers(p, w, n))
		}
	}
}

func TestRootOfSmallNumbers(t *testing.T) {
	root := 0
	for n := 0; n <= 100000; n++ {
		if (root+1)*(root+1) == n {
			root++
		}
		wantRoot(t, n, root)
	}
}

func wantRootAround(t *testing.T, root int) {
	t.Helper()
	wantRoot(t, root*root-1, root-1)
	wantRoot(t, root*root, root)
	wantRoot(t, root*root+1, root)
}

func TestRootAroundSquares(t *testing.T) {
	for _, root := range []int{2, 3, 4, 10, 255, 256, 257, 46340, 46341, 65535, 65536, 94906265, 94906266, 94906267, 1<<31 - 1, 1 << 31, 1<<31 + 1, rootOfMost - 1, rootOfMost} {
		wantRootAround(t, root)
	}
	for root := 2; root <= rootOfMost; root += root/100 + 1 {
		wantRootAround(t, root)
	}
	// Where a float would be rounded up to the next root.
	for root := rootOfMost - 10000; root <= rootOfMost; root++ {
		wantRootAround(t, root)
	}
}

func TestRootOfTheGreatest(t *testing.T) {
	wantRoot(t, most, rootOfMost)
	wantRoot(t, most-1, rootOfMost)
	wantRoot(t, rootOfMost*rootOfMost, rootOfMost)
	wantRoot(t, rootOfMost*rootOfMost-1, rootOfMost-1)
	wantRoot(t, 1<<62, 1<<31)
	wantRoot(t, 1<<62-1, 1<<31-1)
}

func TestBitsOfSmallNumbers(t *testing.T) {
	for i, want := range []int{0, 1, 2, 2, 3, 3, 3, 3, 4, 4, 4, 4, 4, 4, 4, 4, 5} {
		wantBits(t, i, want)
	}
	wantBits(t, 1000, 10)
	wantBits(t, 1000000, 20)
}

func TestBitsAroundPowersOfTwo(t *testing.T) {
	for power := range 63 {
		wantBits(t, 1<<power, power+1)
		wantBits(t, 1<<power-1, power)
	}
	for power := 1; power < 63; power++ {
		wantBits(t, 1<<power+1, power+1)
	}
	wantBits(t, most, 63)
	wantBits(t, most-1, 63)
}

func TestRootAndBitsBelowOne(t *testing.T) {
	for _, n := range []int{0, -1, -2, -4, -16, -65536, -1 << 31, -1 << 32, -1 << 62, -most, least + 1, least} {
		wantRoot(t, n, 0)
		wantBits(t, n, 0)
	}
	wantRoot(t, 1, 1)
	wantBits(t, 1, 1)
}

func TestPlusAndTimesOfOrdinaryNumbers(t *testing.T) {
	wantPlus(t, 0, 0, 0)
	wantPlus(t, 0, 9, 9)
	wantPlus(t, 19, 23, 42)
	wantPlus(t, 1<<40, 1<<41, 3<<40)
	wantTimes(t, 0, 0, 0)
	wantTimes(t, 0, 9, 0)
	wantTimes(t, 1, 9, 9)
	wantTimes(t, 6, 7, 42)
	wantTimes(t, 1<<20, 3<<30, 3<<50)
}

func TestPlusUpToTheGreatest(t *testing.T) {
	for _, a := range []int{1, 2, 1 << 32, most / 2, most/2 + 1, most - 1} {
		wantPlus(t, a, most-a-1, most-1)
		wantPlus(t, a, most-a, most)
		wantPlus(t, a, most-a+1, most)
		wantPlus(t, a, most, most)
	}
	wantPlus(t, most, 0, most)
	wantPlus(t, most-1, 0, most-1)
	wantPlus(t, most, 1, most)
	wantPlus(t, most, most, most)
	wantPlus(t, 1<<62, 1<<62, most)
	wantPlus(t, 1<<62, 1<<62-1, most)
	wantPlus(t, 1<<62, 1<<62-2, most-1)
}

func TestTimesUpToTheGreatest(t *testing.T) {
	wantTimes(t, most, 0, 0)
	wantTimes(t, most, 1, most)
	wantTimes(t, most-1, 1, most-1)
	wantTimes(t, most, 2, most)
	wantTimes(t, most, most, most)
	// The greatest int is 7 times 7 times 73 times 127 times 337 times 92737 times 649657.
	wantTimes(t, 7, most/7, most)
	wantTimes(t, 649657, most/649657, most)
	wantTimes(t, 7, most/7-1, most-7)
	wantTimes(t, 7, most/7+1, most)
	// One more than the greatest int is 2^63.
	for power := 1; power < 63; power++ {
		wantTimes(t, 1<<power, 1<<(63-power), most)
		wantTimes(t, 1<<power, 1<<(63-power)-1, most-1<<power+1)
	}
	wantTimes(t, rootOfMost, rootOfMost, 9223372030926249001)
	wantTimes(t, rootOfMost+1, rootOfMost+1, most)
	wantTimes(t, rootOfMost, rootOfMost+1, 9223372033963249500)
	// Products that come round to 0 and to small numbers in 64 bits.
	wantTimes(t, 1<<32, 1<<32, most)
	wantTimes(t, 1<<62, 4, most)
	wantTimes(t, 1<<62, 1<<62, most)
	wantTimes(t, 1<<32+1, 1<<32+1, most)
}

func TestPlusAndTimesBelowNone(t *testing.T) {
	below := []int{-1, -2, -5, -1 << 32, -1 << 62, -most, least}
	for _, a := range below {
		for _, b := range []int{0, 1, 2, 5, 1 << 32, 1 << 62, most} {
			wantPlus(t, a, b, 0)
			wantTimes(t, a, b, 0)
		}
		for _, b := range below {
			wantPlus(t, a, b, 0)
			wantTimes(t, a, b, 0)
		}
	}
}

func TestPlusAndTimesAgainstBigNumbers(t *testing.T) {
	atMost := func(n *big.Int) int {
		if !n.IsInt64() {
			return most
		}
		return int(n.Int64())
	}
	seed := uint64(1)
	for i := range 100000 {
		seed = seed*6364136223846793005 + 1442695040888963407
		a := int(seed >> (1 + i%63))
		seed = seed*6364136223846793005 + 1442695040888963407
		b := int(seed >> (1 + i/63%63))
		wantPlus(t, a, b, atMost(new(big.Int).Add(big.NewInt(int64(a)), big.NewInt(int64(b)))))
		wantTimes(t, a, b, atMost(new(big.Int).Mul(big.NewInt(int64(a)), big.NewInt(int64(b)))))
	}
}
