package wire

import (
	"iter"

	"cordon/api"
)

const (
	headerNumbers = 7
	entryNumbers  = 5
)

// The sizes of a frame's parts, in bytes.
const (
	kindSize   = 1
	countSize  = 1
	numberSize = 2
	entrySize  = entryNumbers * numberSize
	headerSize = kindSize + headerNumbers*numberSize
	sumSize    = 4
	minFrame   = headerSize + 2*countSize + sumSize
)

// leastNumber is written as 0: this is why a number stands as one more.
const leastNumber = -1

// header stands for the order of a message's single numbers. It gives places,
// not values, so that writing and reading cannot differ in that order.
func header(m *api.Msg) [headerNumbers]*int {
	return [...]*int{&m.From, &m.To, &m.Epoch, &m.Ballot, &m.Vote, &m.Pos, &m.Value}
}

// fields is to an entry what header is to a message.
func fields(e *api.Entry) [entryNumbers]*int {
	return [...]*int{&e.Client, &e.Seq, &e.Kind, &e.Key, &e.Value}
}

// logNumbers ranges over the numbers of entries, in the order of their bytes.
// Each entry is a copy, so the caller's list is out of reach.
func logNumbers(log []api.Entry) iter.Seq[int] {
	return func(yield func(int) bool) {
		for _, e := range log {
			for _, n := range fields(&e) {
				if !yield(*n) {
					return
				}
			}
		}
	}
}

func isKind(kind int) bool {
	return kind >= api.Request && kind <= api.Written
}

func fits(n int) bool {
	return n >= leastNumber && n <= api.MaxNumber
}

// bodySize is the length of all that stands ahead of the sum.
func bodySize(members, entries int) int {
	return headerSize + countSize + members*numberSize + countSize + entries*entrySize
}
