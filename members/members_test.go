package members

import (
	"math"
	"slices"
	"testing"
)

func TestNumbers(t *testing.T) {
	if got := Numbers(0, 5); !slices.Equal(got, []int{0, 1, 2, 3, 4}) {
		t.Errorf("five from 0 on: %v", got)
	}
	if got := Numbers(100, 3); !slices.Equal(got, []int{100, 101, 102}) {
		t.Errorf("three from 100 on: %v", got)
	}
}

func TestAreMembers(t *testing.T) {
	for _, list := range [][]int{{0}, {2}, {2, 0}, {1, 2, 0}, {0, 1, 2}} {
		if !AreMembers(list, 3) {
			t.Errorf("P6: of 3 replicas, %v are members", list)
		}
	}
	for _, list := range [][]int{nil, {}, {3}, {-1}, {0, 3}, {0, -1}, {0, 0}, {0, 1, 0}, {1, 2, 2}, {0, 1, 2, 3}, {0, 1, 2, 0}, {math.MinInt}, {math.MaxInt}, {100}, {0, 1, 2, 3, 4, 5}} {
		if AreMembers(list, 3) {
			t.Errorf("P6: of 3 replicas, %v are no members", list)
		}
	}
	if !AreMembers([]int{4, 2, 3, 1, 0}, 5) || !AreMembers([]int{0}, 1) || AreMembers([]int{1}, 1) || AreMembers([]int{0, 0}, 1) {
		t.Error("P6: members of 5 replicas and of one")
	}
}

func TestBehindAndAhead(t *testing.T) {
	for _, c := range []struct {
		list          []int
		one           int
		behind, ahead []int
	}{
		{[]int{3, 0, 4, 1}, 3, []int{0, 4, 1}, nil},
		{[]int{3, 0, 4, 1}, 0, []int{4, 1}, []int{3}},
		{[]int{3, 0, 4, 1}, 4, []int{1}, []int{0, 3}},
		{[]int{3, 0, 4, 1}, 1, nil, []int{4, 0, 3}},
		{[]int{3, 0, 4, 1}, 2, nil, nil},
		{[]int{0}, 0, nil, nil},
		{[]int{0}, 1, nil, nil},
		{nil, 0, nil, nil},
	} {
		if got := slices.Collect(Behind(c.list, c.one)); !slices.Equal(got, c.behind) {
			t.Errorf("behind %d of %v: %v", c.one, c.list, got)
		}
		if got := slices.Collect(Ahead(c.list, c.one)); !slices.Equal(got, c.ahead) {
			t.Errorf("ahead of %d of %v: %v", c.one, c.list, got)
		}
		checkNeighbour(t, "Next", Next, c.list, c.one, c.behind)
		checkNeighbour(t, "Previous", Previous, c.list, c.one, c.ahead)
	}
}

// checkNeighbour asks that the neighbour is the first of these, if there are any.
func checkNeighbour(t *testing.T, name string, ask func([]int, int) (int, bool), list []int, one int, from []int) {
	t.Helper()
	want := 0
	if len(from) > 0 {
		want = from[0]
	}
	if got, ok := ask(list, one); got != want || ok != (len(from) > 0) {
		t.Errorf("%s of %d in %v: %d, %v", name, one, list, got, ok)
	}
}

// TestEnds: an iterator that went on behind a break would panic.
func TestEnds(t *testing.T) {
	list := []int{0, 1, 2, 3, 4}
	var seen []int
	for member := range Behind(list, 0) {
		seen = append(seen, member)
		if member == 2 {
			break
		}
	}
	for member := range Ahead(list, 4) {
		seen = append(seen, member)
		if member == 2 {
			break
		}
	}
	if !slices.Equal(seen, []int{1, 2, 3, 2}) {
		t.Errorf("Ways: gone through till a break: %v", seen)
	}
}
