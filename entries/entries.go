// Package entries: what an entry is, and what a log tells about its entries: see DOC.md.
package entries

import (
	"iter"

	"cordon/api"
)

// noValue is the answer where no Put of the key stands ahead.
const noValue = -1

// IsEntry tells whether all numbers of e are allowed.
func IsEntry(e api.Entry) bool {
	return isUpTo(e.Client, api.MaxClient) &&
		isUpTo(e.Seq, api.MaxSeq) &&
		isUpTo(e.Key, api.MaxKey) &&
		hasValueOfItsKind(e)
}

func isUpTo(n, most int) bool {
	return n >= 0 && n <= most
}

func hasValueOfItsKind(e api.Entry) bool {
	switch e.Kind {
	case api.Put:
		return isUpTo(e.Value, api.MaxValue)
	case api.Get:
		return e.Value == 0
	}
	return false
}

// Fitting ranges over the entries of a log that fit, each with its place.
func Fitting(log []api.Entry, fits func(api.Entry) bool) iter.Seq2[int, api.Entry] {
	return func(yield func(int, api.Entry) bool) {
		for place, e := range log {
			if fits(e) && !yield(place, e) {
				return
			}
		}
	}
}

// From ranges over the entries of a log from a place on, each with its place.
func From(log []api.Entry, place int) iter.Seq2[int, api.Entry] {
	return func(yield func(int, api.Entry) bool) {
		for at := place; at < len(log); at++ {
			if !yield(at, log[at]) {
				return
			}
		}
	}
}

// Find tells the place of a client's request in a log.
func Find(log []api.Entry, client, seq int) (int, bool) {
	isIt := func(e api.Entry) bool { return e.Client == client && e.Seq == seq }
	for place := range Fitting(log, isIt) {
		return place, true
	}
	return 0, false
}

// HasLater tells whether a log has a request of this client with a greater Seq.
func HasLater(log []api.Entry, client, seq int) bool {
	isLater := func(e api.Entry) bool { return e.Client == client && e.Seq > seq }
	for range Fitting(log, isLater) {
		return true
	}
	return false
}

// Answer is the value that the key of the entry at a place has there.
func Answer(log []api.Entry, place int) int {
	key := log[place].Key
	isPut := func(e api.Entry) bool { return e.Kind == api.Put && e.Key == key }
	value := noValue
	for _, e := range Fitting(log[:place], isPut) {
		value = e.Value
	}
	return value
}
