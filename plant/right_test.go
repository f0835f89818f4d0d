package plant_test

import (
	"slices"
	"testing"

	"ordinate/api"
	"ordinate/plant"
)

func wantRight(t *testing.T, l []api.Pair, want bool, what string) {
	t.Helper()
	if got := plant.Right(l); got != want {
		t.Errorf("10.1: Right is %t: %s", got, what)
	}
}

func TestRightOfFew(t *testing.T) {
	wantRight(t, nil, true, "nil")
	wantRight(t, []api.Pair{}, true, "an empty list")
	for _, k := range []int64{least, -1, 0, 1, greatest} {
		wantRight(t, pairs(k), true, "one pair")
		wantRight(t, pairs(k, k), false, "two keys alike")
		wantRight(t, pairs(k, k, k), false, "three keys alike")
	}
	wantRight(t, pairs(1, 2), true, "1 2")
	wantRight(t, pairs(2, 1), false, "2 1")
	wantRight(t, pairs(-2, -1), true, "-2 -1")
	wantRight(t, pairs(-1, -2), false, "-1 -2")
	wantRight(t, pairs(-1, 0, 1), true, "-1 0 1")
	wantRight(t, pairs(1, 0, -1), false, "1 0 -1")
	wantRight(t, pairs(1, 3, 2), false, "1 3 2")
	wantRight(t, pairs(2, 1, 3), false, "2 1 3")
}

// How far two keys are from each other may be more than an int64 holds.
func TestRightOfKeysFarApart(t *testing.T) {
	for _, keys := range [][]int64{
		{least, greatest}, {least, 0}, {0, greatest}, {-1, greatest}, {least, 1}, {least, 0, greatest},
		{least, least + 1}, {greatest - 1, greatest}, {least, least + 1, greatest - 1, greatest},
	} {
		wantRight(t, pairs(keys...), true, "keys that rise")
		slices.Reverse(keys)
		wantRight(t, pairs(keys...), false, "keys that fall")
	}
	wantRight(t, pairs(least, greatest, least), false, "the least key again")
	wantRight(t, pairs(greatest, least, greatest), false, "the greatest key first")
}

// One fault, wherever it is, is enough.
func TestRightWithAFaultAnywhere(t *testing.T) {
	for _, n := range []int{2, 3, 4, 5, 9, 100, 130} {
		for i := 1; i < n; i++ {
			l := rising(n, -50, 3)
			l[i].Key = l[i-1].Key
			wantRight(t, l, false, "two keys alike")
			l[i].Key--
			wantRight(t, l, false, "a key below the one ahead")
			l[i].Key += 2
			wantRight(t, l, true, "a key just above the one ahead")
		}
	}
}

// Each key is above the one next to it ahead, not above the first one alone.
func TestRightOfKeysThatComeAgain(t *testing.T) {
	wantRight(t, pairs(1, 2, 3, 1, 2, 3), false, "keys that begin anew")
	wantRight(t, pairs(1, 5, 9, 5), false, "a key that was there")
	wantRight(t, pairs(1, 2, 3, 3), false, "the last key twice")
	wantRight(t, pairs(1, 1, 2, 3), false, "the first key twice")
}

func TestRightAsksForNoValue(t *testing.T) {
	for _, v := range []int64{least, -1, 0, 1, greatest} {
		wantRight(t, []api.Pair{{Key: 1, Value: v}, {Key: 2, Value: v}, {Key: 3, Value: -5}}, true, "values that don't rise")
	}
	wantRight(t, []api.Pair{{Key: 1, Value: 1}, {Key: 1, Value: 2}}, false, "keys alike, values that rise")
	wantRight(t, []api.Pair{{Key: 2, Value: 1}, {Key: 1, Value: 2}}, false, "keys that fall, values that rise")
}

func TestRightOfManyKeys(t *testing.T) {
	for _, n := range []int{api.MaxKeys - 1, api.MaxKeys} {
		l := rising(n, -7, 3)
		wantRight(t, l, true, "not too many")
		l[n-1].Key = l[n-2].Key
		wantRight(t, l, false, "not too many, the last two alike")
	}
	for _, n := range []int{api.MaxKeys + 1, api.MaxKeys + 2, 2 * api.MaxKeys, 65536, 65537} {
		wantRight(t, rising(n, -7, 3), false, "too many")
	}
}
