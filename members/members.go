// Package members: replicas in the order of their chain: see DOC.md.
package members

import (
	"iter"
	"slices"
)

// Behind ranges over those that stand behind one of the members, the nearest
// first; over nobody, if that one is none of them.
func Behind(list []int, one int) iter.Seq[int] {
	return func(yield func(int) bool) {
		at := slices.Index(list, one)
		if at < 0 {
			return
		}
		for _, member := range list[at+1:] {
			if !yield(member) {
				return
			}
		}
	}
}

// Ahead is to those ahead what Behind is to those behind: the nearest is first here too.
func Ahead(list []int, one int) iter.Seq[int] {
	return func(yield func(int) bool) {
		for at := slices.Index(list, one) - 1; at >= 0; at-- {
			if !yield(list[at]) {
				return
			}
		}
	}
}

// Next is the neighbour behind; there is none behind the tail.
func Next(list []int, one int) (int, bool) {
	return first(Behind(list, one))
}

// Previous is the neighbour ahead; there is none ahead of the head.
func Previous(list []int, one int) (int, bool) {
	return first(Ahead(list, one))
}

func first(some iter.Seq[int]) (int, bool) {
	for member := range some {
		return member, true
	}
	return 0, false
}
