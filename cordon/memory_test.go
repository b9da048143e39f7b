package cordon

import (
	"slices"
	"testing"

	"cordon/api"
)

// scribble writes into a list and all of its spare room.
func scribble[T any](list []T, mark T) {
	list = list[:cap(list)]
	for i := range list {
		list[i] = mark
	}
}

// busy is a cluster of which every list has something in it.
func busy(t *testing.T) *Cluster {
	t.Helper()
	c := open(t, 3)
	for i := range 3 {
		ask(t, c, 0, put(0, i, i, i))
	}
	change(t, c, 200, 0, 2, 1)
	for i := 3; i < 5; i++ {
		ask(t, c, 0, put(0, i, i, i))
	}
	for i := range 3 {
		c.Ask(i, put(1, i, i, i))
	}
	return c
}

func scribblePicture(p picture) {
	scribble(p.Bag, "scribble")
	scribble(p.Answers, api.Answer{Client: 77})
	for _, s := range p.Status {
		scribble(s.Members, 77)
		scribble(s.Log, api.Entry{Client: 77})
	}
	for _, b := range p.Ballots {
		scribble(b.Members, 77)
	}
}

// TestAnswersAreTheCallers: writing into a list that came out changes no other, and not the cluster.
func TestAnswersAreTheCallers(t *testing.T) {
	c := busy(t)
	want := look(busy(t))
	early := look(c)
	scribblePicture(look(c))
	if !same(early, want) {
		t.Errorf("P2: writing into a list changed one that came out before: %+v", early)
	}
	if late := look(c); !same(late, want) {
		t.Errorf("P2: writing into a list changed one that came out later: %+v", late)
	}
	drain(t, c)
	other := busy(t)
	drain(t, other)
	if !same(look(c), look(other)) {
		t.Errorf("P2: writing into a list changed what the cluster did: %+v", look(c))
	}
	if !same(early, want) {
		t.Errorf("P2: what the cluster did changed a list that came out before: %+v", early)
	}
}

// TestOneListAtATime: the lists that came out with one are not changed by writing into it.
func TestOneListAtATime(t *testing.T) {
	c := busy(t)
	want := look(c)
	for i := range want.Status {
		got := look(c)
		scribble(got.Status[i].Members, 77)
		got.Status[i].Members = want.Status[i].Members
		if !same(got, want) {
			t.Errorf("P2: writing into the members of %d changed %+v", i, got)
		}
		got = look(c)
		scribble(got.Status[i].Log, api.Entry{Client: 77})
		got.Status[i].Log = want.Status[i].Log
		if !same(got, want) {
			t.Errorf("P2: writing into the log of %d changed %+v", i, got)
		}
	}
	for i := range want.Ballots {
		got := look(c)
		scribble(got.Ballots[i].Members, 77)
		got.Ballots[i].Members = want.Ballots[i].Members
		if !same(got, want) {
			t.Errorf("P2: writing into the members of acceptor %d changed %+v", i, got)
		}
	}
}

// TestGrowingLists: what is put behind a list that came out does not stand in the room of the next one.
func TestGrowingLists(t *testing.T) {
	c := busy(t)
	first, second := look(c), look(c)
	want := look(busy(t))
	for _, p := range []picture{first, second} {
		p.Bag = append(p.Bag, "more")
		p.Answers = append(p.Answers, api.Answer{Client: 77})
		p.Status[0].Log = append(p.Status[0].Log, api.Entry{Client: 77})
		p.Status[0].Members = append(p.Status[0].Members, 77)
	}
	drain(t, c)
	first.Status[0].Log, first.Status[0].Members = first.Status[0].Log[:5], first.Status[0].Members[:3]
	if !same(first, want) {
		t.Errorf("P2: an earlier answer was changed: %+v", first)
	}
	if s, _ := c.Status(0); len(s.Log) != 8 || slices.Contains(s.Log, api.Entry{Client: 77}) {
		t.Errorf("P2: the log has %+v", s.Log)
	}
}

// TestTwoClusters: what is done with one shows nothing in the other.
func TestTwoClusters(t *testing.T) {
	a, b := open(t, 3), open(t, 3)
	fresh := look(open(t, 3))
	for i := range 10 {
		ask(t, a, i%3, put(0, i, 0, i))
	}
	change(t, a, 200, 2, 0)
	a.Change(201, []int{1})
	deliver(t, a, 9)
	a.Ask(0, put(1, 0, 0, 0))
	for _, n := range nodesOf(3) {
		a.Crash(n)
	}
	if got := look(b); !same(got, fresh) {
		t.Errorf("P2: one cluster changed another: %+v", got)
	}
	busyA := look(a)
	ask(t, b, 0, put(2, 2, 2, 2))
	b.Change(200, []int{1, 2})
	checkBag(t, "P2: the masters of another cluster", b, toAll(api.Msg{Kind: api.Read, Ballot: 2}, 200, 100, 101, 102)...)
	drain(t, b)
	checkRegisters(t, "P2: the acceptors of another cluster", b, 1, 1, 2)
	b.Crash(0)
	if got := look(a); !same(got, busyA) {
		t.Errorf("P2: one cluster changed another: %+v", got)
	}
}
