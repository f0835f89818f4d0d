package stack

import "testing"

// What is popped is gone: the memory behind the stack holds on to none of it.
func TestWhatIsPoppedIsNotKept(t *testing.T) {
	var s Stack[*int]
	for range 9 {
		s.Push(new(int))
	}
	for range 6 {
		s.Pop()
	}
	for i, p := range s.items[:cap(s.items)] {
		if (p != nil) != (i < 3) {
			t.Errorf("3.1: place %d of three that are there is kept: %t", i, p != nil)
		}
	}
}
