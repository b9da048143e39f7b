package master

import (
	"reflect"
	"slices"
	"testing"

	"cordon/api"
)

func longLog(n int) []api.Entry {
	var log []api.Entry
	for i := range n {
		log = append(log, api.Entry{Client: 3, Seq: i, Kind: api.Put, Key: 9, Value: i})
	}
	return log
}

func register(from, epoch, ballot int, members ...int) api.Msg {
	return api.Msg{Kind: api.Register, From: from, To: 201, Epoch: epoch, Ballot: ballot, Members: members}
}

func sealed(from, epoch, ballot int, log []api.Entry) api.Msg {
	return api.Msg{Kind: api.Sealed, From: from, To: 201, Epoch: epoch, Ballot: ballot, Log: log}
}

// noPromise is a Promise that tells of no vote.
func noPromise(from, epoch, ballot int) api.Msg {
	return promise(from, epoch, ballot, -1, nil, nil)
}

func promise(from, epoch, ballot, vote int, members []int, log []api.Entry) api.Msg {
	return api.Msg{Kind: api.Promise, From: from, To: 201, Epoch: epoch, Ballot: ballot, Vote: vote, Members: members, Log: log}
}

func accepted(from, epoch, ballot int) api.Msg {
	return api.Msg{Kind: api.Accepted, From: from, To: 201, Epoch: epoch, Ballot: ballot}
}

func installed(from, epoch int) api.Msg {
	return api.Msg{Kind: api.Installed, From: from, To: 201, Epoch: epoch}
}

func written(from, epoch int) api.Msg {
	return api.Msg{Kind: api.Written, From: from, To: 201, Epoch: epoch}
}

// fromTo is a question as master 201 sends it, to each of these.
func fromTo(m api.Msg, to ...int) []api.Msg {
	var list []api.Msg
	for _, n := range to {
		m.From, m.To = 201, n
		list = append(list, m)
	}
	return list
}

func alike(a, b api.Msg) bool {
	sameLists := slices.Equal(a.Members, b.Members) && slices.Equal(a.Log, b.Log)
	a.Members, a.Log, b.Members, b.Log = nil, nil, nil, nil
	return sameLists && reflect.DeepEqual(a, b)
}

func checkSent(t *testing.T, what string, got, want []api.Msg) {
	t.Helper()
	if !slices.EqualFunc(got, want, alike) {
		t.Errorf("%s: it sent %+v, want %+v", what, got, want)
	}
}

// checkNothing asks that messages are taken in without a trace.
func checkNothing(t *testing.T, what string, m *Master, list ...api.Msg) {
	t.Helper()
	for _, answer := range list {
		before := m.Tick()
		checkSent(t, what, m.Take(answer), nil)
		checkSent(t, what+": Tick behind it", m.Tick(), before)
	}
}

// stage is a thing that a master does: what it asks whom, in the change of
// which course tells, and answers that end it, each of which it waits for.
type stage struct {
	name     string
	question api.Msg
	asked    []int
	answers  []api.Msg
}

// course is the change of master 201, its first one, to the members 2 and 0,
// where the registers tell the epoch 4 with the members 1, 3, 0.
func course() []stage {
	acceptors, wanted, log := []int{100, 101, 102}, []int{2, 0}, longLog(2)
	return []stage{
		{"it reads", api.Msg{Kind: api.Read, Ballot: 3}, acceptors,
			[]api.Msg{register(102, 4, 3, 1, 3, 0), register(100, 4, 3, 1, 3, 0)}},
		{"it seals", api.Msg{Kind: api.Seal, Epoch: 5, Ballot: 3}, []int{1, 3, 0},
			[]api.Msg{sealed(3, 5, 3, log)}},
		{"it prepares", api.Msg{Kind: api.Prepare, Epoch: 5, Ballot: 3}, acceptors,
			[]api.Msg{noPromise(101, 5, 3), noPromise(100, 5, 3)}},
		{"it asks for votes", api.Msg{Kind: api.Accept, Epoch: 5, Ballot: 3, Members: wanted, Log: log}, acceptors,
			[]api.Msg{accepted(101, 5, 3), accepted(102, 5, 3)}},
		{"it installs", api.Msg{Kind: api.Install, Epoch: 5, Members: wanted, Log: log}, []int{2, 0},
			[]api.Msg{installed(0, 5), installed(2, 5)}},
		{"it writes", api.Msg{Kind: api.Write, Epoch: 5, Members: wanted}, acceptors,
			[]api.Msg{written(102, 5), written(101, 5)}},
		{name: "it is idle"},
	}
}

// bring plays the course up to the stage of this place.
func bring(place int) *Master {
	m := New(201)
	m.Begin([]int{2, 0})
	for _, s := range course()[:place] {
		for _, answer := range s.answers {
			m.Take(answer)
		}
	}
	return m
}
