// Package ref is layer 1: words that refer to a record by its kind and its address (../shared/doc/01-ref.md).
package ref

import "ordinate/api"

// The kinds of what a word refers to; None is the kind of a word that refers to nothing.
const (
	None = iota
	Empty
	Leaf
	Inner
	Rebuild
	Dcss
)

// step is how far apart the words of neighbouring addresses lie: the kinds have room between them.
const step = 8

// Of tells the word of a kind and an address; 0, which is no such word, if one of both may not be.
func Of(kind, at int) int64 {
	if !isKind(int64(kind)) || !isAddress(int64(at)) {
		return 0
	}
	return step*int64(at) + int64(kind)
}

// Kind tells the kind of a word; None, if it isn't Right.
func Kind(w int64) int {
	if !Right(w) {
		return None
	}
	return int(w % step)
}

// At tells the address of a word; 0, if it isn't Right.
func At(w int64) int {
	if !Right(w) {
		return 0
	}
	return int(w / step)
}

// Right tells whether w is a word that refers. One below 0 is none: its quotient is never above 0, so it is no address.
func Right(w int64) bool {
	return isAddress(w/step) && isKind(w%step)
}

// isKind and isAddress take an int64, so that no word is cut short ahead of the question.
func isKind(kind int64) bool {
	return Empty <= kind && kind <= Dcss
}

func isAddress(at int64) bool {
	return 1 <= at && at <= api.MaxCells
}
