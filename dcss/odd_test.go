package dcss_test

import (
	"fmt"
	"math"
	"slices"
	"testing"

	"ordinate/api"
	"ordinate/dcss"
	"ordinate/mem"
)

// wantOneEach: no call panics, each of six Steps at most is one access, none is one behind that, and no cell that was used is turned but those that may be. What an odd access leads to isn't said.
func wantOneEach(t *testing.T, m *mem.Mem, c change, may []int, what string) {
	t.Helper()
	f := c.frame()
	record := 0
	for i := 1; i <= whole && !f.Done(); i++ {
		ahead, cells := m.Count(), m.Cells()
		wantAhead(t, m, f, record, what)
		if over := f.Step(m); over != f.Done() || m.Count() != ahead+1 {
			t.Errorf("0.5: the Step %d is %t, Done %t, of %d accesses: %s", i, over, f.Done(), m.Count()-ahead, what)
		}
		if i == 1 {
			record = len(cells) + 1
			cells = append(cells, int64(c.guard), int64(c.place), c.old, c.new, 0)
		}
		for j, x := range m.Cells() {
			if x != cells[j] && j+1 != record+4 && !slices.Contains(may, j+1) {
				t.Errorf("14.1: the Step %d turned the cell %d: %s", i, j+1, what)
			}
		}
	}
	if !f.Done() {
		t.Errorf("14.1: it is not Done behind %d accesses: %s", whole, what)
	}
	wantEnd(t, m, f, f.Outcome(), record, what)
}

// noCell are the addresses of no used cell in a memory of 40 of which 12 are used, when a Dcss is made behind Begin.
func noCell() []int {
	return []int{
		0, -1, -3, -6, -8, 13, 20, 40, 41, api.MaxCells, api.MaxCells + 1, 1 << 32, 1<<32 + 3, 1<<32 + 6, -1 << 32,
		math.MinInt, math.MinInt + 3, math.MinInt + 6, math.MaxInt, math.MaxInt - 8,
	}
}

func TestCellsThatAreNone(t *testing.T) {
	for _, a := range noCell() {
		for guard := range int64(2) {
			what := fmt.Sprintf("%d is no used cell, the guard %d", a, guard)
			wantOneEach(t, guarded(t, guard), change{guard: a, place: 6, old: 57, new: 66}, []int{6}, "the guard "+what)
			wantOneEach(t, guarded(t, guard), change{guard: a, place: 6, old: 66, new: 57}, nil, "another word, the guard "+what)
			wantOneEach(t, guarded(t, guard), change{guard: 3, place: a, old: 57, new: 66}, nil, "the slot "+what)
			wantOneEach(t, guarded(t, guard), change{guard: 3, place: a, old: 0, new: 66}, nil, "from 0, the slot "+what)
			wantOneEach(t, guarded(t, guard), change{guard: a, place: a, old: 0, new: 0}, nil, "the guard and the slot "+what)
		}
	}
}

// A guard and a slot that are no used cells when the frame is made, but are by the time of the accesses that reach them.
func TestCellsThatAreUsedByThen(t *testing.T) {
	for behind := range 2 {
		m, c := begun(t, 40), change{20, 21, 0, 66, 8}
		f := c.frame()
		if behind == 0 {
			m.Make(make([]int64, 20))
			c.at = 28
		}
		wantSteps(t, m, f, c, 1, 1, whole, nil, "cells are made")
		if behind == 1 {
			m.Make(make([]int64, 20))
		}
		_, at := c.alone(dcss.Done)
		wantSteps(t, m, f, c, 2, whole, whole, at, "cells are made")
		wantEnd(t, m, f, dcss.Done, c.at, "cells are made")
	}
}

// In a memory none of whose cells was used the Dcss's own are all there is.
func TestNothingElseIsUsed(t *testing.T) {
	for _, c := range []change{{3, 6, 57, 66, 1}, {3, 5, 0, 66, 1}, {3, 2, 2, 66, 1}, {6, 7, 0, 0, 1}} {
		wantOneEach(t, fresh(t, 40), c, []int{c.place}, fmt.Sprintf("no cell is used, %+v", c))
	}
}

// Where there is no memory there is no access: the frame stays where it is, and goes on when there is one.
func TestNoMemory(t *testing.T) {
	for outcome := dcss.Not; outcome <= dcss.Shut; outcome++ {
		m, f := leading(t, outcome), usual.frame()
		end, at := usual.alone(outcome)
		for i := 1; i <= end; i++ {
			if f.Step(nil) || f.Done() || f.Outcome() != 0 {
				t.Errorf("0.5: without a memory Step is true ahead of the access %d, or it is Done, or there is an Outcome: %d", i, f.Outcome())
			}
			wantSteps(t, m, f, usual, i, i, end, at, "a Step without a memory ahead of it")
		}
		if !f.Step(nil) {
			t.Error("0.5: at its end Step without a memory is false")
		}
		wantEnd(t, m, f, outcome, 8, "a Step without a memory behind it")
	}
}

// Frames over one memory don't see each other.
func TestFramesDoNotSeeEachOther(t *testing.T) {
	m := begun(t, 40)
	one, other, third := usual, change{4, 7, 0, 74, 13}, change{3, 6, 57, 82, 18}
	f, g, h := one.frame(), other.frame(), third.frame()
	_, ones := one.alone(dcss.Done)
	_, others := other.alone(dcss.Shut)
	wantSteps(t, m, f, one, 1, 3, whole, ones, "one")
	m.Write(4, 1)
	wantSteps(t, m, g, other, 1, 4, whole, others, "another slot's")
	wantSteps(t, m, h, third, 1, 2, 2, nil, "the same slot's")
	wantEnd(t, m, h, dcss.Not, 18, "the same slot's")
	wantSteps(t, m, f, one, 4, whole, whole, ones, "one")
	wantSteps(t, m, g, other, 5, whole, whole, others, "another slot's")
	wantEnd(t, m, f, dcss.Done, 8, "one")
	wantEnd(t, m, g, dcss.Shut, 13, "another slot's")
}

// A copy goes on from where the other one stops, by itself.
func TestClone(t *testing.T) {
	for outcome := dcss.Not; outcome <= dcss.Shut; outcome++ {
		end, at := usual.alone(outcome)
		for behind := range end + 1 {
			what := fmt.Sprintf("copied behind %d accesses, the Outcome is to be %d", behind, outcome)
			m, f := leading(t, outcome), usual.frame()
			wantSteps(t, m, f, usual, 1, behind, end, at, "the first one, "+what)
			ahead, then := countsOf(m), m.Clone()
			c := f.Clone()
			if got := countsOf(m); got != ahead {
				t.Errorf("0.5: Clone made accesses: %v, not %v", got, ahead)
			}
			// Each of them goes on over a memory as it was then; in turns, so that what they shared would be seen.
			for i := behind + 1; i <= end; i++ {
				wantSteps(t, m, c, usual, i, i, end, at, "the copy, "+what)
				wantSteps(t, then, f, usual, i, i, end, at, "the first one, "+what)
			}
			wantEnd(t, m, c, outcome, 8, "the copy, "+what)
			wantEnd(t, then, f, outcome, 8, "the first one, "+what)
		}
	}
}
