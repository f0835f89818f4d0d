package node_test

import (
	"slices"
	"testing"

	"ordinate/node"
)

func TestListsOfInnerWordsAreNotChanged(t *testing.T) {
	// The lists have room behind them: what lies there is no more the record's than the lists are.
	q, c := []int64{7, 9, 77, 78, 79, 80}, []int64{18, 26, 34, 87, 88, 89, 90}
	w := node.InnerWords(3, q[:2], c[:3])
	for i := range w {
		w[i] = -1
	}
	_ = append(w, 5, 5, 5, 5, 5, 5)
	node.InnerWords(3, q[:2], c[:2])
	if !slices.Equal(q, []int64{7, 9, 77, 78, 79, 80}) || !slices.Equal(c, []int64{18, 26, 34, 87, 88, 89, 90}) {
		t.Errorf("0.3: lists that were handed to InnerWords are %v and %v", q, c)
	}
}

func TestListsOfInnerWordsAreNotKept(t *testing.T) {
	for _, degree := range []int{1, 2, 3, 200} {
		q, c := rising(degree-1, 1, 1), rising(degree, 10, 8)
		want := innerCells(degree, q, c)
		w := node.InnerWords(degree, q, c)
		clear(q)
		clear(c)
		wantWords(t, "InnerWords, its lists changed,", w, want...)
	}
}

// Both lists may be pieces of one.
func TestInnerWordsOfOneListTwice(t *testing.T) {
	l := []int64{10, 18, 26, 34}
	w := node.InnerWords(4, l[:2], l[:3])
	wantWords(t, "InnerWords", w, 3, 4, 0, 0, 0, 10, 18, 10, 18, 26)
	w = node.InnerWords(4, l[1:3], l[1:])
	l[2] = 0
	wantWords(t, "InnerWords", w, 3, 4, 0, 0, 0, 18, 26, 18, 26, 34)
	w[5] = 1
	wantWords(t, "InnerWords", w, 3, 4, 0, 0, 0, 1, 26, 18, 26, 34)
	if !slices.Equal(l, []int64{10, 18, 0, 34}) {
		t.Errorf("0.3: a list that was handed to InnerWords is %v", l)
	}
}

// makers is each call that tells cells, with what it is to tell.
func makers() []struct {
	name string
	call func() []int64
	want []int64
} {
	return []struct {
		name string
		call func() []int64
		want []int64
	}{
		{"LeafWords", func() []int64 { return node.LeafWords(4, -5) }, []int64{4, -5}},
		{"EmptyWords", func() []int64 { return node.EmptyWords() }, []int64{0}},
		{"InnerWords", func() []int64 { return node.InnerWords(2, []int64{7}, []int64{18, 26}) }, []int64{2, 2, 0, 0, 0, 7, 18, 26}},
		{"InnerWords of degree 1", func() []int64 { return node.InnerWords(0, nil, []int64{57}) }, []int64{1, 0, 0, 0, 0, 57}},
		{"InnerWords of no child", func() []int64 { return node.InnerWords(0, nil, nil) }, nil},
		{"RebuildWords", func() []int64 { return node.RebuildWords(83, 3, 6) }, []int64{83, 3, 6, 0, 0}},
		{"DcssWords", func() []int64 { return node.DcssWords(3, 6, 57, 66) }, []int64{3, 6, 57, 66, 0}},
	}
}

// scribble writes over a list, and behind it, where it has room.
func scribble(w []int64) {
	for i := range w {
		w[i] = -99
	}
	behind := w[:cap(w)]
	for i := range behind {
		behind[i] = -98
	}
}

func TestWordsAreNewMemory(t *testing.T) {
	for _, x := range makers() {
		one, other := x.call(), x.call()
		wantWords(t, x.name, one, x.want...)
		scribble(one)
		wantWords(t, x.name+", another one scribbled over,", other, x.want...)
		wantWords(t, x.name+" the next time", x.call(), x.want...)
	}
}

// What one call told has nothing in common with what another one told.
func TestWordsOfUnlikeRecordsAreApart(t *testing.T) {
	for i, x := range makers() {
		var told [][]int64
		for _, y := range makers() {
			told = append(told, y.call())
		}
		scribble(told[i])
		for j, y := range makers() {
			if j != i {
				wantWords(t, y.name+", "+x.name+" scribbled over,", told[j], y.want...)
			}
		}
	}
}

func TestWordsAndTheRecordMadeOfThem(t *testing.T) {
	for _, x := range makers() {
		if len(x.want) == 0 {
			continue
		}
		m := fresh(t, 40)
		m.Make([]int64{-1})
		w := x.call()
		at, _ := m.Make(w)
		scribble(w)
		m.Make(w)
		if got := m.Cells()[at-1:][:len(x.want)]; !slices.Equal(got, x.want) {
			t.Errorf("8.2: the record of %s, its words scribbled over, is %v", x.name, got)
		}
		told := x.call()
		m.Make(told)
		for a := 1; a <= m.Used(); a++ {
			m.Write(a, 70)
		}
		wantWords(t, x.name+", its record written over,", told, x.want...)
	}
}

// Begin's records are its memory's own.
func TestBeginAndWordsAreApart(t *testing.T) {
	one, other := fresh(t, 7), fresh(t, 7)
	wantBegun(t, one)
	for a := 1; a <= 7; a++ {
		one.Write(a, -1)
	}
	wantBegun(t, other)
	wantWords(t, "EmptyWords behind Begin", node.EmptyWords(), 0)
	scribble(node.EmptyWords())
	wantBegun(t, fresh(t, 8))
}
