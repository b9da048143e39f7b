package cordon

import (
	"math"
	"slices"
	"testing"

	"cordon/api"
)

// someNumbers are nodes of each kind, their neighbours, and numbers far off.
func someNumbers() []int {
	return []int{math.MinInt, -1, 0, 1, 4, 5, 99, 100, 102, 103, 199, 200, 201, 202, 300, 303, 304, math.MaxInt}
}

// TestNoCallPanics: P1, at numbers of all sorts; a panic ends the test.
func TestNoCallPanics(t *testing.T) {
	for _, replicas := range someNumbers() {
		c, e := New(api.Config{Replicas: replicas})
		if e != api.OK {
			continue
		}
		for _, n := range someNumbers() {
			c.Ask(n, api.Entry{Client: n, Seq: n, Kind: n, Key: n, Value: n})
			c.Ask(n, api.Entry{Kind: api.Put})
			c.Change(n, []int{n, n})
			c.Change(n, nil)
			c.Change(n, []int{0})
			c.Tick(n)
			c.Double(n)
			c.Spoil(n, []int{n, n, n, n})
			c.Spoil(n, nil)
			c.Deliver(n)
			c.Drop(n)
			c.Crash(n)
			c.Restart(n)
			c.Status(n)
			c.Ballots(n)
			c.Round()
			c.Bag()
			c.Answers()
		}
	}
}

// TestListsHandedInStay: P2, in the lists and behind them.
func TestListsHandedInStay(t *testing.T) {
	c, e := New(api.Config{Replicas: 3})
	if e != api.OK {
		t.Fatalf("P5: New of 3 replicas: %d", e)
	}
	list := []int{2, 0, 1, 77, 77, 77}
	c.Ask(0, api.Entry{Kind: api.Put})
	c.Change(api.Master, list[:3])
	c.Spoil(0, list[:2])
	for range 20 {
		c.Round()
	}
	if !slices.Equal(list, []int{2, 0, 1, 77, 77, 77}) {
		t.Errorf("P2: a list that was handed in was written into: %v", list)
	}
}
