package acceptor

import (
	"reflect"
	"slices"
	"testing"

	"cordon/api"
)

func read(from, ballot int) api.Msg {
	return api.Msg{Kind: api.Read, From: from, To: 101, Ballot: ballot}
}

func register(to, epoch, ballot int, members ...int) api.Msg {
	return api.Msg{Kind: api.Register, From: 101, To: to, Epoch: epoch, Ballot: ballot, Members: members}
}

func prepare(from, epoch, ballot int) api.Msg {
	return api.Msg{Kind: api.Prepare, From: from, To: 101, Epoch: epoch, Ballot: ballot}
}

// promise tells of a vote; of none, if the vote is -1.
func promise(to, epoch, ballot, vote int, members []int, log []api.Entry) api.Msg {
	return api.Msg{Kind: api.Promise, From: 101, To: to, Epoch: epoch, Ballot: ballot, Vote: vote, Members: members, Log: log}
}

func accept(from, epoch, ballot int, members []int, log []api.Entry) api.Msg {
	return api.Msg{Kind: api.Accept, From: from, To: 101, Epoch: epoch, Ballot: ballot, Members: members, Log: log}
}

func accepted(to, epoch, ballot int) api.Msg {
	return api.Msg{Kind: api.Accepted, From: 101, To: to, Epoch: epoch, Ballot: ballot}
}

func write(from, epoch int, members ...int) api.Msg {
	return api.Msg{Kind: api.Write, From: from, To: 101, Epoch: epoch, Members: members}
}

func written(to, epoch int) api.Msg {
	return api.Msg{Kind: api.Written, From: 101, To: to, Epoch: epoch}
}

func open() *Acceptor {
	return New(101, []int{0, 1, 2})
}

func longLog(n int) []api.Entry {
	var log []api.Entry
	for i := range n {
		log = append(log, api.Entry{Client: 3, Seq: i, Kind: api.Put, Key: 9, Value: i})
	}
	return log
}

// alike holds two messages against each other; no list is like an empty one.
func alike(a, b api.Msg) bool {
	sameLists := slices.Equal(a.Members, b.Members) && slices.Equal(a.Log, b.Log)
	a.Members, a.Log, b.Members, b.Log = nil, nil, nil, nil
	return sameLists && reflect.DeepEqual(a, b)
}

func checkSent(t *testing.T, what string, got []api.Msg, want ...api.Msg) {
	t.Helper()
	if !slices.EqualFunc(got, want, alike) {
		t.Errorf("%s: it sent %+v, want %+v", what, got, want)
	}
}

func checkRegister(t *testing.T, what string, a *Acceptor, epoch int, members ...int) {
	t.Helper()
	if b := a.Ballots(); b.Up || b.Epoch != epoch || !slices.Equal(b.Members, members) {
		t.Errorf("%s: its register is %+v, want %d, %v", what, b, epoch, members)
	}
}

func TestRead(t *testing.T) {
	a := open()
	checkRegister(t, "P5: at first", a, 0, 0, 1, 2)
	checkSent(t, "P11: Read", a.Take(read(200, 2)), register(200, 0, 2, 0, 1, 2))
	checkSent(t, "P11: Read of the other, with a smaller ballot", a.Take(read(201, 1)), register(201, 0, 1, 0, 1, 2))
	a.Take(prepare(200, 1, 9))
	a.Take(accept(200, 1, 9, []int{2}, nil))
	checkSent(t, "P11: votes are not the register", a.Take(read(200, 4)), register(200, 0, 4, 0, 1, 2))
	a.Take(write(200, 7, 2, 0))
	checkSent(t, "P11: Read behind a Write", a.Take(read(201, 3)), register(201, 7, 3, 2, 0))
}

func TestPrepare(t *testing.T) {
	a := open()
	checkSent(t, "P11: the first ballot", a.Take(prepare(200, 1, 4)), promise(200, 1, 4, -1, nil, nil))
	checkSent(t, "P11: just below", a.Take(prepare(201, 1, 3)))
	checkSent(t, "P11: far below", a.Take(prepare(201, 1, 0)))
	checkSent(t, "P11: just at", a.Take(prepare(200, 1, 4)), promise(200, 1, 4, -1, nil, nil))
	checkSent(t, "P11: just above", a.Take(prepare(201, 1, 5)), promise(201, 1, 5, -1, nil, nil))
	checkSent(t, "P11: what was enough before", a.Take(prepare(200, 1, 4)))
	checkSent(t, "P11: another epoch", a.Take(prepare(200, 2, 4)), promise(200, 2, 4, -1, nil, nil))
	checkSent(t, "P11: an epoch before", a.Take(prepare(200, 0, 2)), promise(200, 0, 2, -1, nil, nil))
	checkSent(t, "P11: the others' promises stay", a.Take(prepare(200, 1, 4)))
	checkSent(t, "P11: the others' promises stay", a.Take(prepare(200, 2, 3)))
	checkSent(t, "P11: the others' promises stay", a.Take(prepare(200, 2, 4)), promise(200, 2, 4, -1, nil, nil))
	checkRegister(t, "P11: promises are not the register", a, 0, 0, 1, 2)
}

func TestAccept(t *testing.T) {
	a := open()
	a.Take(prepare(201, 1, 5))
	checkSent(t, "P11: just below", a.Take(accept(200, 1, 4, []int{0}, longLog(1))))
	checkSent(t, "P11: that was no vote", a.Take(prepare(201, 1, 5)), promise(201, 1, 5, -1, nil, nil))
	checkSent(t, "P11: just at", a.Take(accept(201, 1, 5, []int{2, 1}, longLog(2))), accepted(201, 1, 5))
	checkSent(t, "P11: the same again", a.Take(accept(201, 1, 5, []int{2, 1}, longLog(2))), accepted(201, 1, 5))
	checkSent(t, "P11: below a vote", a.Take(accept(200, 1, 4, []int{0}, longLog(1))))
	checkSent(t, "P11: Promise tells the vote", a.Take(prepare(200, 1, 6)), promise(200, 1, 6, 5, []int{2, 1}, longLog(2)))
	checkSent(t, "P11: behind the promise of another", a.Take(accept(201, 1, 5, []int{1}, nil)))
	checkSent(t, "P11: the vote stays", a.Take(prepare(201, 1, 7)), promise(201, 1, 7, 5, []int{2, 1}, longLog(2)))
	checkSent(t, "P11: a greater vote", a.Take(accept(200, 1, 8, []int{1}, longLog(24))), accepted(200, 1, 8))
	checkSent(t, "P11: Accept promises too", a.Take(prepare(201, 1, 7)))
	checkSent(t, "P11: Accept promises too", a.Take(accept(201, 1, 7, []int{0}, nil)))
	checkSent(t, "P11: the greater vote", a.Take(prepare(201, 1, 9)), promise(201, 1, 9, 8, []int{1}, longLog(24)))
	checkRegister(t, "P11: votes are not the register", a, 0, 0, 1, 2)
}

func TestAcceptOfOtherEpochs(t *testing.T) {
	a := open()
	checkSent(t, "P11: Accept with no Prepare", a.Take(accept(200, 2, 6, []int{0, 1}, nil)), accepted(200, 2, 6))
	checkSent(t, "P11: a smaller ballot of another epoch", a.Take(accept(201, 1, 3, []int{2}, longLog(3))), accepted(201, 1, 3))
	checkSent(t, "P11: a smaller ballot of this epoch", a.Take(accept(201, 2, 3, []int{2}, longLog(3))))
	checkSent(t, "P11: each epoch has its vote", a.Take(prepare(200, 2, 8)), promise(200, 2, 8, 6, []int{0, 1}, nil))
	checkSent(t, "P11: each epoch has its vote", a.Take(prepare(200, 1, 8)), promise(200, 1, 8, 3, []int{2}, longLog(3)))
	checkSent(t, "P11: an epoch with none", a.Take(prepare(200, 3, 8)), promise(200, 3, 8, -1, nil, nil))
}

func TestWrite(t *testing.T) {
	a := open()
	checkSent(t, "P11: Write of the register's epoch", a.Take(write(200, 0, 2)), written(200, 0))
	checkRegister(t, "P11: Write of the register's epoch", a, 0, 0, 1, 2)
	checkSent(t, "P11: Write of the next", a.Take(write(201, 1, 1, 0)), written(201, 1))
	checkRegister(t, "P11: Write of the next", a, 1, 1, 0)
	checkSent(t, "P11: Write of a far one", a.Take(write(200, 5, 2)), written(200, 5))
	checkRegister(t, "P11: Write of a far one", a, 5, 2)
	for _, epoch := range []int{0, 1, 4, 5} {
		checkSent(t, "P11: Write that comes late", a.Take(write(200, epoch, 0)), written(200, epoch))
		checkRegister(t, "P11: Write that comes late", a, 5, 2)
	}
	checkSent(t, "P11: the register is no promise", a.Take(prepare(200, 5, 0)), promise(200, 5, 0, -1, nil, nil))
}

func TestTickAndCrash(t *testing.T) {
	a := open()
	a.Take(write(200, 3, 1))
	a.Take(prepare(201, 4, 7))
	a.Take(accept(200, 5, 6, []int{0, 2}, longLog(4)))
	checkSent(t, "P11: Tick", a.Tick())
	a.Crash()
	checkRegister(t, "P8: down", a, 3, 1)
	a.Restart()
	checkRegister(t, "P8: up again", a, 3, 1)
	checkSent(t, "P8: the promise is kept", a.Take(prepare(200, 4, 6)))
	checkSent(t, "P8: the vote is kept", a.Take(prepare(200, 5, 6)), promise(200, 5, 6, 6, []int{0, 2}, longLog(4)))
	checkSent(t, "P11: Tick", a.Tick())
}

// TestNotNamed: messages of the kinds that are for others, or are none.
func TestNotNamed(t *testing.T) {
	a := open()
	for kind := -1; kind <= 18; kind++ {
		switch kind {
		case api.Read, api.Prepare, api.Accept, api.Write:
			continue
		}
		checkSent(t, "P11: a kind that is not named", a.Take(api.Msg{Kind: kind, From: 200, To: 101, Epoch: 1, Ballot: 8, Vote: 8, Members: []int{2}, Log: longLog(1)}))
	}
	checkRegister(t, "P11: kinds that are not named", a, 0, 0, 1, 2)
	checkSent(t, "P11: kinds that are not named", a.Take(prepare(200, 1, 2)), promise(200, 1, 2, -1, nil, nil))
}

// TestKeepsNoList: what comes in and goes out is no memory of the acceptor.
func TestKeepsNoList(t *testing.T) {
	all := []int{0, 1, 2}
	a, other := New(101, all), New(102, all)
	all[0] = 9
	checkRegister(t, "P2: New", a, 0, 0, 1, 2)
	a.Take(read(200, 2))[0].Members[0] = 9
	a.Ballots().Members[1] = 9
	checkRegister(t, "P2: Register and Ballots", a, 0, 0, 1, 2)
	members, log := []int{2, 1}, longLog(2)
	a.Take(accept(200, 1, 2, members, log))
	members[0], log[0] = 9, api.Entry{}
	sent := a.Take(prepare(200, 1, 4))
	sent[0].Members[1], sent[0].Log[1] = 9, api.Entry{}
	checkSent(t, "P2: Accept and Promise", a.Take(prepare(200, 1, 4)), promise(200, 1, 4, 2, []int{2, 1}, longLog(2)))
	members = []int{1, 2}
	a.Take(write(200, 1, members...))
	members[0] = 9
	checkRegister(t, "P2: Write", a, 1, 1, 2)
	checkRegister(t, "P2: another acceptor", other, 0, 0, 1, 2)
}
