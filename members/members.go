// Package members: replicas in the order of their chain, and the numbers of nodes: see DOC.md.
package members

import (
	"iter"
	"slices"
)

// Numbers is so many numbers from the first one on: those of all nodes of a kind.
func Numbers(first, count int) []int {
	list := make([]int, count)
	for i := range list {
		list[i] = first + i
	}
	return list
}

// AreMembers tells whether a list could be members, where there are so many replicas.
func AreMembers(list []int, replicas int) bool {
	if len(list) < 1 || len(list) > replicas {
		return false
	}
	for i, one := range list {
		if one < 0 || one >= replicas || slices.Contains(list[:i], one) {
			return false
		}
	}
	return true
}

// Behind ranges over those that stand behind one of the members, the nearest
// first; over nobody, if that one is none of them.
func Behind(list []int, one int) iter.Seq[int] {
	return func(yield func(int) bool) {
		at := slices.Index(list, one)
		if at < 0 {
			return
		}
		for _, member := range list[at+1:] {
			if !yield(member) {
				return
			}
		}
	}
}

// Ahead is to those ahead what Behind is to those behind: the nearest is first here too.
func Ahead(list []int, one int) iter.Seq[int] {
	return func(yield func(int) bool) {
		for at := slices.Index(list, one) - 1; at >= 0; at-- {
			if !yield(list[at]) {
				return
			}
		}
	}
}

// Next is the neighbour behind; there is none behind the tail.
func Next(list []int, one int) (int, bool) {
	return first(Behind(list, one))
}

// Previous is the neighbour ahead; there is none ahead of the head.
func Previous(list []int, one int) (int, bool) {
	return first(Ahead(list, one))
}

func first(some iter.Seq[int]) (int, bool) {
	for member := range some {
		return member, true
	}
	return 0, false
}
