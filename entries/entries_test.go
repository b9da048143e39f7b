package entries

import (
	"math"
	"slices"
	"testing"

	"cordon/api"
)

func put(client, seq, key, value int) api.Entry {
	return api.Entry{Client: client, Seq: seq, Kind: api.Put, Key: key, Value: value}
}

func get(client, seq, key int) api.Entry {
	return api.Entry{Client: client, Seq: seq, Kind: api.Get, Key: key}
}

func TestEntries(t *testing.T) {
	for _, e := range []api.Entry{put(0, 0, 0, 0), put(3, 999, 15, 999), get(0, 0, 0), get(3, 999, 15)} {
		if !IsEntry(e) {
			t.Errorf("Words: %+v is an entry", e)
		}
	}
}

func TestNoEntries(t *testing.T) {
	for _, far := range []int{math.MinInt, math.MaxInt, -1} {
		for _, e := range []api.Entry{put(far, 0, 0, 0), put(0, far, 0, 0), put(0, 0, far, 0), put(0, 0, 0, far), {Kind: far}, {Kind: api.Get, Value: far}} {
			if IsEntry(e) {
				t.Errorf("Words: %+v is no entry", e)
			}
		}
	}
	for _, e := range []api.Entry{{}, {Kind: 3}, put(4, 0, 0, 0), put(0, 1000, 0, 0), put(0, 0, 16, 0), put(0, 0, 0, 1000), get(4, 0, 0), get(0, 1000, 0), get(0, 0, 16), {Kind: api.Get, Value: 1}, {Kind: api.Get, Value: 999}} {
		if IsEntry(e) {
			t.Errorf("Words: %+v is no entry", e)
		}
	}
}

func TestFitting(t *testing.T) {
	log := []api.Entry{put(0, 0, 1, 5), get(1, 0, 1), put(0, 1, 2, 6), put(2, 0, 1, 7)}
	isPut := func(e api.Entry) bool { return e.Kind == api.Put }
	var places []int
	for place, e := range Fitting(log, isPut) {
		if e != log[place] {
			t.Errorf("at %d: %+v", place, e)
		}
		places = append(places, place)
	}
	if !slices.Equal(places, []int{0, 2, 3}) {
		t.Errorf("places that fit: %v", places)
	}
	for range Fitting(nil, isPut) {
		t.Errorf("an empty log has an entry")
	}
}

// TestFittingEnds: when nobody wants more, no further entry is looked at.
func TestFittingEnds(t *testing.T) {
	log := []api.Entry{put(0, 0, 0, 0), put(0, 1, 0, 0), put(0, 2, 0, 0)}
	seen := 0
	for range Fitting(log, func(api.Entry) bool { seen++; return true }) {
		break
	}
	if seen != 1 {
		t.Errorf("Ways: %d entries were looked at, want 1", seen)
	}
}

func TestFrom(t *testing.T) {
	log := []api.Entry{put(0, 0, 0, 0), put(0, 1, 0, 0), put(0, 2, 0, 0)}
	for start := range 5 {
		some := From(log, start)
		for range 2 {
			want := start
			for place, e := range some {
				if place != want || e != log[place] {
					t.Errorf("from %d on: %d %+v", start, place, e)
				}
				want++
			}
			if want != max(start, len(log)) {
				t.Errorf("from %d on: it ends ahead of %d", start, want)
			}
		}
		for range some {
			break
		}
	}
}

func TestFind(t *testing.T) {
	log := []api.Entry{put(0, 1, 0, 0), put(1, 0, 0, 0), put(0, 3, 0, 0)}
	for _, c := range []struct {
		client, seq, place int
		found              bool
	}{{0, 1, 0, true}, {1, 0, 1, true}, {0, 3, 2, true}, {0, 0, 0, false}, {1, 1, 0, false}, {2, 0, 0, false}, {0, 2, 0, false}} {
		if place, ok := Find(log, c.client, c.seq); place != c.place || ok != c.found {
			t.Errorf("Find of %d, %d: %d, %v", c.client, c.seq, place, ok)
		}
	}
}

func TestHasLater(t *testing.T) {
	log := []api.Entry{put(0, 1, 0, 0), put(1, 9, 0, 0), put(0, 3, 0, 0), put(0, 2, 0, 0)}
	for _, c := range []struct {
		client, seq int
		later       bool
	}{{0, 0, true}, {0, 2, true}, {0, 3, false}, {0, 4, false}, {1, 8, true}, {1, 9, false}, {2, 0, false}} {
		if HasLater(log, c.client, c.seq) != c.later {
			t.Errorf("HasLater of %d, %d is not %v", c.client, c.seq, c.later)
		}
	}
	if HasLater(nil, 0, 0) {
		t.Errorf("an empty log has something later")
	}
}

// TestAnswer: Words, 'the answer': of Puts and Gets, of another key, and of what stands at the place or behind it.
func TestAnswer(t *testing.T) {
	log := []api.Entry{get(0, 0, 1), put(0, 1, 1, 5), put(0, 2, 2, 9), get(0, 3, 1), put(1, 0, 1, 0), get(1, 1, 1), put(0, 4, 1, 7), get(2, 0, 2), get(2, 1, 3), put(3, 0, 15, 999), get(3, 1, 15), get(3, 2, 1)}
	want := []int{-1, -1, -1, 5, 5, 0, 0, 9, -1, -1, 999, 7}
	for place, value := range want {
		if got := Answer(log, place); got != value {
			t.Errorf("Words: the answer at %d is %d, want %d", place, got, value)
		}
	}
}
