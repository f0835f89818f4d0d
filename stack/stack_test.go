package stack_test

import (
	"slices"
	"strconv"
	"testing"

	"ordinate/stack"
)

// pile tells a stack onto which the values were pushed one behind the other.
func pile[T any](values ...T) *stack.Stack[T] {
	s := &stack.Stack[T]{}
	for _, x := range values {
		s.Push(x)
	}
	return s
}

func wantPop[T comparable](t *testing.T, s *stack.Stack[T], want T) {
	t.Helper()
	if x, ok := s.Pop(); x != want || !ok {
		t.Errorf("3.1: Pop is %v %t, not %v true", x, ok, want)
	}
}

func wantTop[T comparable](t *testing.T, s *stack.Stack[T], want T) {
	t.Helper()
	if x, ok := s.Top(); x != want || !ok {
		t.Errorf("3.1: Top is %v %t, not %v true", x, ok, want)
	}
}

func wantLen[T any](t *testing.T, s *stack.Stack[T], want int) {
	t.Helper()
	if n := s.Len(); n != want {
		t.Errorf("3.1: Len is %d, not %d", n, want)
	}
}

// wantAll asks for the values from the top down, by one iterator that is gone through twice and by a new one.
func wantAll[T comparable](t *testing.T, s *stack.Stack[T], want ...T) {
	t.Helper()
	seq := s.All()
	if seq == nil {
		t.Fatal("0.3: All is nil")
	}
	first, second, other := slices.Collect(seq), slices.Collect(seq), slices.Collect(s.All())
	if !slices.Equal(first, want) || !slices.Equal(second, want) || !slices.Equal(other, want) {
		t.Errorf("3.1: All is %v, a second time %v, asked anew %v, not %v", first, second, other, want)
	}
	wantLen(t, s, len(want))
}

// wantNone asks each call of an empty stack, more than once: none of them leaves anything behind.
func wantNone[T comparable](t *testing.T, s *stack.Stack[T]) {
	t.Helper()
	var zero T
	for range 3 {
		if x, ok := s.Top(); x != zero || ok {
			t.Errorf("3.1: Top of an empty one is %v %t", x, ok)
		}
		if x, ok := s.Pop(); x != zero || ok {
			t.Errorf("3.1: Pop of an empty one is %v %t", x, ok)
		}
		wantLen(t, s, 0)
		wantAll(t, s)
	}
}

func TestChapterExamples(t *testing.T) {
	var s stack.Stack[int]
	s.Push(1)
	s.Push(2)
	wantTop(t, &s, 2)
	wantPop(t, &s, 2)
	wantLen(t, &s, 1)
	wantPop(t, &s, 1)
	if x, ok := s.Pop(); x != 0 || ok {
		t.Errorf("3.1: the last Pop is %d %t, not 0 false", x, ok)
	}
}

func TestNumbers(t *testing.T) {
	s := pile(7, -7, 0)
	wantLen(t, s, 3)
	wantTop(t, s, 0)
	wantTop(t, s, 0)
	wantAll(t, s, 0, -7, 7)
	wantPop(t, s, 0)
	wantAll(t, s, -7, 7)
	s.Push(8)
	s.Push(8)
	wantAll(t, s, 8, 8, -7, 7)
	wantPop(t, s, 8)
	wantPop(t, s, 8)
	wantPop(t, s, -7)
	wantTop(t, s, 7)
	wantAll(t, s, 7)
}

func TestTexts(t *testing.T) {
	s := pile("one", "", "two")
	wantAll(t, s, "two", "", "one")
	wantPop(t, s, "two")
	wantTop(t, s, "")
	wantPop(t, s, "")
	s.Push("three")
	wantAll(t, s, "three", "one")
	wantPop(t, s, "three")
	wantPop(t, s, "one")
	wantNone(t, s)
}

func TestZeroStack(t *testing.T) {
	var numbers stack.Stack[int]
	wantNone(t, &numbers)
	var texts stack.Stack[string]
	wantNone(t, &texts)
	var pointers stack.Stack[*int]
	wantNone(t, &pointers)
	var nothings stack.Stack[struct{}]
	wantNone(t, &nothings)
}

// Each call is the first one of a stack of its own here.
func TestFirstCallOfAZeroStack(t *testing.T) {
	var asked, topped, popped, ranged, pushed stack.Stack[string]
	wantLen(t, &asked, 0)
	if x, ok := topped.Top(); x != "" || ok {
		t.Errorf("3.1: Top of a zero one is %q %t", x, ok)
	}
	if x, ok := popped.Pop(); x != "" || ok {
		t.Errorf("3.1: Pop of a zero one is %q %t", x, ok)
	}
	for x := range ranged.All() {
		t.Errorf("3.1: All of a zero one has %q", x)
	}
	pushed.Push("x")
	wantAll(t, &pushed, "x")
}

// A zero value that was pushed is there: true tells it from none.
func TestZeroValuesAreThere(t *testing.T) {
	s := pile[any](nil, nil)
	wantLen(t, s, 2)
	wantTop(t, s, nil)
	wantAll(t, s, nil, nil)
	wantPop(t, s, nil)
	wantPop(t, s, nil)
	wantNone(t, s)
	nothings := pile(struct{}{}, struct{}{})
	wantAll(t, nothings, struct{}{}, struct{}{})
	wantPop(t, nothings, struct{}{})
	wantPop(t, nothings, struct{}{})
	wantNone(t, nothings)
}

func TestPoppedEmptyAndPushedAgain(t *testing.T) {
	var s stack.Stack[int]
	for round := range 4 {
		n := 1 + 5*round
		for i := range n {
			s.Push(100*round + i)
		}
		wantLen(t, &s, n)
		for i := n - 1; i >= 0; i-- {
			wantTop(t, &s, 100*round+i)
			wantPop(t, &s, 100*round+i)
		}
		wantNone(t, &s)
	}
	s.Push(-1)
	wantAll(t, &s, -1)
}

func TestAllIsLeftEarly(t *testing.T) {
	s := pile("a", "b", "c", "d", "e")
	falling := []string{"e", "d", "c", "b", "a"}
	for place, last := range falling {
		var seen []string
		for x := range s.All() {
			seen = append(seen, x)
			if x == last {
				break
			}
		}
		if !slices.Equal(seen, falling[:place+1]) {
			t.Errorf("3.1: All, left at %s, is %v", last, seen)
		}
		wantAll(t, s, falling...)
		wantTop(t, s, "e")
	}
	wantPop(t, s, "e")
	wantAll(t, s, falling[1:]...)
}

// An iterator that was left early begins at the top again.
func TestOneIteratorIsLeftAndGoneThroughAgain(t *testing.T) {
	s := pile(1, 2, 3)
	seq := s.All()
	for range 2 {
		for x := range seq {
			if x != 3 {
				t.Errorf("3.1: All begins with %d, not 3", x)
			}
			break
		}
	}
	if got := slices.Collect(seq); !slices.Equal(got, []int{3, 2, 1}) {
		t.Errorf("3.1: All behind loops that were left is %v", got)
	}
}

func TestLoopsWithinOneAnother(t *testing.T) {
	s := pile(1, 2, 3)
	var seen []int
	for x := range s.All() {
		for y := range s.All() {
			if y < x {
				break
			}
			seen = append(seen, 10*x+y)
		}
	}
	if want := []int{33, 23, 22, 13, 12, 11}; !slices.Equal(seen, want) {
		t.Errorf("3.1: two loops at once see %v, not %v", seen, want)
	}
	wantAll(t, s, 3, 2, 1)
}

// What such loops see is not said; they end, and the calls within them do what they do anywhere.
func TestChangesOnTheWayDoNotPanic(t *testing.T) {
	s := pile(1, 2, 3, 4, 5)
	for range s.All() {
		s.Pop()
		s.Pop()
		s.Pop()
	}
	wantNone(t, s)
	s = pile(1, 2)
	rounds := 0
	for range s.All() {
		rounds++
		if rounds > 1000 {
			t.Fatal("0.1: a loop that pushes doesn't end")
		}
		s.Push(3)
	}
	wantTop(t, s, 3)
	wantLen(t, s, 2+rounds)
}

func TestTwoStacksDoNotSeeOneAnother(t *testing.T) {
	var one, other stack.Stack[int]
	for i := range 50 {
		one.Push(i)
		wantLen(t, &other, i)
		other.Push(-i)
		wantTop(t, &one, i)
		wantTop(t, &other, -i)
	}
	for i := 49; i >= 0; i-- {
		wantPop(t, &one, i)
		wantLen(t, &other, 50)
	}
	wantNone(t, &one)
	wantTop(t, &other, -49)
	one.Push(7)
	wantPop(t, &other, -49)
	wantAll(t, &one, 7)
}

// What All told is the caller's: changing it doesn't reach the stack.
func TestWhatAllToldIsNotTheStack(t *testing.T) {
	s := pile(1, 2, 3)
	told := slices.Collect(s.All())
	clear(told)
	wantAll(t, s, 3, 2, 1)
}

// A long run of pushes and pops in a fixed pattern, held against a plain list.
func TestLongRunAgainstAList(t *testing.T) {
	var s stack.Stack[string]
	var list []string
	state := uint32(1)
	for i := range 5000 {
		state = state*1664525 + 1013904223
		// The runs grow for a while and shrink for a while, so that the empty stack is met again and again.
		if grows := i/400%2 == 0; (state>>16)%4 == 0 != grows {
			x := strconv.Itoa(i)
			s.Push(x)
			list = append(list, x)
		} else if len(list) == 0 {
			wantNone(t, &s)
		} else {
			wantPop(t, &s, list[len(list)-1])
			list = list[:len(list)-1]
		}
		wantLen(t, &s, len(list))
		if i%250 == 0 {
			falling := slices.Clone(list)
			slices.Reverse(falling)
			wantAll(t, &s, falling...)
		}
	}
}
