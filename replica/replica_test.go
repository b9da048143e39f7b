package replica

import (
	"reflect"
	"slices"
	"testing"

	"cordon/api"
)

func put(client, seq, key, value int) api.Entry {
	return api.Entry{Client: client, Seq: seq, Kind: api.Put, Key: key, Value: value}
}

func request(e api.Entry) api.Msg {
	return api.Msg{Kind: api.Request, From: api.Client + e.Client, Log: []api.Entry{e}}
}

func forward(from, to, epoch, pos int, e api.Entry) api.Msg {
	return api.Msg{Kind: api.Forward, From: from, To: to, Epoch: epoch, Pos: pos, Log: []api.Entry{e}}
}

func ack(from, to, epoch, pos int) api.Msg {
	return api.Msg{Kind: api.Ack, From: from, To: to, Epoch: epoch, Pos: pos}
}

func reply(from, client, seq, value int) api.Msg {
	return api.Msg{Kind: api.Reply, From: from, To: api.Client + client, Pos: seq, Value: value}
}

func seal(epoch, ballot int) api.Msg {
	return api.Msg{Kind: api.Seal, From: 201, Epoch: epoch, Ballot: ballot}
}

func sealed(from, epoch, ballot int, log ...api.Entry) api.Msg {
	return api.Msg{Kind: api.Sealed, From: from, To: 201, Epoch: epoch, Ballot: ballot, Log: log}
}

func install(epoch int, members []int, log ...api.Entry) api.Msg {
	return api.Msg{Kind: api.Install, From: 200, Epoch: epoch, Members: members, Log: log}
}

func installed(from, epoch int) api.Msg {
	return api.Msg{Kind: api.Installed, From: from, To: 200, Epoch: epoch}
}

// longLog is so many entries of client 3, each Put of key 9 one more than the one before.
func longLog(n int) []api.Entry {
	var log []api.Entry
	for i := range n {
		log = append(log, put(3, i, 9, i))
	}
	return log
}

// alike holds two messages against each other; no list is like an empty one.
func alike(a, b api.Msg) bool {
	sameLists := slices.Equal(a.Members, b.Members) && slices.Equal(a.Log, b.Log)
	a.Members, a.Log, b.Members, b.Log = nil, nil, nil, nil
	return sameLists && reflect.DeepEqual(a, b)
}

func checkSent(t *testing.T, what string, got []api.Msg, want ...api.Msg) {
	t.Helper()
	if !slices.EqualFunc(got, want, alike) {
		t.Errorf("%s: it sent %+v, want %+v", what, got, want)
	}
}

// checkNothing asks that a message is taken in without a trace.
func checkNothing(t *testing.T, what string, r *Replica, m api.Msg) {
	t.Helper()
	before := r.Status()
	checkSent(t, what, r.Take(m))
	if after := r.Status(); !reflect.DeepEqual(before, after) {
		t.Errorf("%s: it was %+v, is %+v", what, before, after)
	}
}

func checkStatus(t *testing.T, what string, r *Replica, epoch, seal, commit, length int, members ...int) {
	t.Helper()
	s := r.Status()
	if s.Epoch != epoch || s.Seal != seal || s.Commit != commit || len(s.Log) != length || !slices.Equal(s.Members, members) {
		t.Errorf("%s: it is %+v, want epoch %d, seal %d, commit %d, %d entries, members %v", what, s, epoch, seal, commit, length, members)
	}
}

func TestOrdinaryChain(t *testing.T) {
	all := []int{0, 1, 2}
	e := put(2, 8, 5, 7)
	head, middle, tail := New(0, all), New(1, all), New(2, all)
	checkSent(t, "P13: the head puts it", head.Take(request(e)), forward(0, 1, 0, 0, e))
	checkSent(t, "P13: the one between puts it", middle.Take(forward(0, 1, 0, 0, e)), forward(1, 2, 0, 0, e))
	checkSent(t, "P13: the tail commits it", tail.Take(forward(1, 2, 0, 0, e)), reply(2, 2, 8, -1), ack(2, 1, 0, 1))
	checkStatus(t, "P13: the tail", tail, 0, 0, 1, 1, 0, 1, 2)
	checkStatus(t, "P13: the one between", middle, 0, 0, 0, 1, 0, 1, 2)
	checkSent(t, "P13: Ack", middle.Take(ack(2, 1, 0, 1)), ack(1, 0, 0, 1))
	checkSent(t, "P13: Ack to the head", head.Take(ack(1, 0, 0, 1)))
	checkStatus(t, "P13: the head", head, 0, 0, 1, 1, 0, 1, 2)
	checkSent(t, "P12: the same again", head.Take(request(e)), reply(0, 2, 8, -1))
}

// TestOtherOrder: who stands where is told by the members, not by the numbers.
func TestOtherOrder(t *testing.T) {
	members := []int{3, 0, 2}
	e := put(0, 0, 5, 7)
	r := New(0, []int{0, 1, 2, 3})
	r.Take(install(4, members, longLog(2)...))
	checkSent(t, "P12: not the head", r.Take(request(e)), api.Msg{Kind: api.Request, From: 0, To: 3, Log: []api.Entry{e}})
	checkNothing(t, "P13: Forward from one who is not ahead", r, forward(2, 0, 4, 2, e))
	checkSent(t, "P13: Forward", r.Take(forward(3, 0, 4, 2, e)), forward(0, 2, 4, 2, e))
	checkNothing(t, "P13: Ack from one who is not behind", r, ack(3, 0, 4, 3))
	checkSent(t, "P13: Ack", r.Take(ack(2, 0, 4, 3)), ack(0, 3, 4, 3))
}

func TestAlone(t *testing.T) {
	r := New(0, []int{0})
	checkSent(t, "P13: head and tail", r.Take(request(put(1, 4, 2, 3))), reply(0, 1, 4, -1))
	checkSent(t, "P13: head and tail", r.Take(request(put(1, 5, 2, 4))), reply(0, 1, 5, 3))
	checkStatus(t, "P13: head and tail", r, 0, 0, 2, 2, 0)
	checkSent(t, "P13: Tick of one alone", r.Tick())
	checkNothing(t, "P13: Forward to one alone", r, forward(0, 0, 0, 2, put(0, 0, 0, 0)))
	checkNothing(t, "P13: Ack to one alone", r, ack(0, 0, 0, 2))
}

func TestRequestAgain(t *testing.T) {
	r := New(0, []int{0, 1})
	r.Take(request(put(1, 5, 2, 3)))
	checkNothing(t, "P12: again, ahead of its commit", r, request(put(1, 5, 2, 3)))
	checkNothing(t, "P12: a smaller Seq", r, request(put(1, 4, 2, 3)))
	checkSent(t, "P12: a smaller Seq of another", r.Take(request(put(2, 4, 2, 9))), forward(0, 1, 0, 1, put(2, 4, 2, 9)))
	r.Take(ack(1, 0, 0, 1))
	checkSent(t, "P12: again, committed", r.Take(request(put(1, 5, 2, 3))), reply(0, 1, 5, -1))
	checkSent(t, "P12: the Client and Seq alone count", r.Take(request(put(1, 5, 9, 9))), reply(0, 1, 5, -1))
	checkNothing(t, "P12: the one behind the commit", r, request(put(2, 4, 2, 9)))
	r.Take(ack(1, 0, 0, 2))
	checkSent(t, "P12: the next one, committed", r.Take(request(put(2, 4, 2, 9))), reply(0, 2, 4, 3))
	checkStatus(t, "P12: nothing was put twice", r, 0, 0, 2, 2, 0, 1)
}

func TestRequestThatDoesNotFit(t *testing.T) {
	for _, r := range []*Replica{New(0, []int{0}), New(1, []int{0, 1})} {
		checkNothing(t, "P12: Request of no entry", r, api.Msg{Kind: api.Request, From: 300})
		checkNothing(t, "P12: Request of two", r, api.Msg{Kind: api.Request, From: 300, Log: longLog(2)})
	}
}

func TestFull(t *testing.T) {
	head := New(0, []int{0, 1})
	head.Take(install(1, []int{0, 1}, longLog(23)...))
	checkSent(t, "P12: the last place", head.Take(request(put(0, 0, 0, 0))), forward(0, 1, 1, 23, put(0, 0, 0, 0)))
	checkNothing(t, "P12: a full log", head, request(put(1, 0, 0, 0)))
	checkSent(t, "P12: again, with a full log", head.Take(request(put(3, 22, 9, 22))), reply(0, 3, 22, 21))
	tail := New(1, []int{0, 1})
	tail.Take(install(1, []int{0, 1}, longLog(24)...))
	checkNothing(t, "P13: Forward to a full log", tail, forward(0, 1, 1, 24, put(0, 0, 0, 0)))
	checkSent(t, "P13: Forward to a place of a full log", tail.Take(forward(0, 1, 1, 23, put(0, 0, 0, 0))), ack(1, 0, 1, 24))
}

func TestForwardOfOtherPlaces(t *testing.T) {
	all := []int{0, 1, 2}
	tail, middle := New(2, all), New(1, all)
	for i, e := range longLog(3) {
		tail.Take(forward(1, 2, 0, i, e))
		middle.Take(forward(0, 1, 0, i, e))
	}
	late, early := put(3, 1, 9, 1), put(3, 4, 9, 4)
	checkNothing(t, "P13: a place behind the next one", tail, forward(1, 2, 0, 4, early))
	checkNothing(t, "P13: a place behind the next one", middle, forward(0, 1, 0, 4, early))
	checkSent(t, "P13: a lower place, to the tail", tail.Take(forward(1, 2, 0, 1, late)), ack(2, 1, 0, 3))
	checkNothing(t, "P13: a lower place that is not committed", middle, forward(0, 1, 0, 1, late))
	middle.Take(ack(2, 1, 0, 2))
	checkSent(t, "P13: a lower place that is committed", middle.Take(forward(0, 1, 0, 1, late)), ack(1, 0, 0, 2))
	checkNothing(t, "P13: the place of the commit", middle, forward(0, 1, 0, 2, put(3, 2, 9, 2)))
	checkStatus(t, "P13: the tail", tail, 0, 0, 3, 3, 0, 1, 2)
}

func TestForwardThatDoesNotFit(t *testing.T) {
	e := put(0, 0, 0, 0)
	for number := range 3 {
		r := New(number, []int{0, 1, 2})
		r.Take(install(2, []int{0, 1, 2}))
		for from := -1; from < 4; from++ {
			if from == number-1 && number > 0 {
				continue
			}
			checkNothing(t, "P13: not from the one ahead", r, forward(from, number, 2, 0, e))
		}
		for _, epoch := range []int{0, 1, 3} {
			checkNothing(t, "P13: Forward of another epoch", r, forward(number-1, number, epoch, 0, e))
		}
		checkNothing(t, "P13: Forward of no entry", r, api.Msg{Kind: api.Forward, From: number - 1, To: number, Epoch: 2})
		checkNothing(t, "P13: Forward of two", r, api.Msg{Kind: api.Forward, From: number - 1, To: number, Epoch: 2, Log: longLog(2)})
	}
}

func TestAcks(t *testing.T) {
	head := New(0, []int{0, 1})
	for _, e := range longLog(3) {
		head.Take(request(e))
	}
	checkNothing(t, "P13: Ack of no entry", head, ack(1, 0, 0, 0))
	checkNothing(t, "P13: Ack behind the log", head, ack(1, 0, 0, 4))
	checkNothing(t, "P13: Ack of another epoch", head, ack(1, 0, 1, 2))
	checkNothing(t, "P13: Ack from another", head, ack(2, 0, 0, 2))
	checkNothing(t, "P13: Ack from itself", head, ack(0, 0, 0, 2))
	head.Take(ack(1, 0, 0, 2))
	checkStatus(t, "P13: Ack", head, 0, 0, 2, 3, 0, 1)
	checkNothing(t, "P13: Ack twice", head, ack(1, 0, 0, 2))
	checkNothing(t, "P13: Ack out of order", head, ack(1, 0, 0, 1))
	head.Take(ack(1, 0, 0, 3))
	checkStatus(t, "P13: Ack of all", head, 0, 0, 3, 3, 0, 1)
}

// TestAcksThatAreNotHandedOn: what tells the one between nothing new, tells nobody anything.
func TestAcksThatAreNotHandedOn(t *testing.T) {
	middle := New(1, []int{0, 1, 2})
	checkNothing(t, "P13: Ack of an empty log", middle, ack(2, 1, 0, 0))
	for i, e := range longLog(3) {
		middle.Take(forward(0, 1, 0, i, e))
	}
	checkSent(t, "P13: Ack of two", middle.Take(ack(2, 1, 0, 2)), ack(1, 0, 0, 2))
	checkNothing(t, "P13: Ack twice", middle, ack(2, 1, 0, 2))
	checkNothing(t, "P13: Ack out of order", middle, ack(2, 1, 0, 1))
	checkNothing(t, "P13: Ack behind the log", middle, ack(2, 1, 0, 4))
	checkNothing(t, "P13: Ack from the one ahead", middle, ack(0, 1, 0, 3))
	checkSent(t, "P13: Ack of all", middle.Take(ack(2, 1, 0, 3)), ack(1, 0, 0, 3))
}

func TestTick(t *testing.T) {
	all := []int{0, 1, 2}
	log := longLog(3)
	head, middle, tail := New(0, all), New(1, all), New(2, all)
	checkSent(t, "P13: Tick of the head, nothing there", head.Tick())
	checkSent(t, "P13: Tick of the one between, nothing there", middle.Tick())
	checkSent(t, "P13: Tick of the tail, nothing there", tail.Tick(), ack(2, 1, 0, 0))
	for i, e := range log {
		head.Take(request(e))
		middle.Take(forward(0, 1, 0, i, e))
		tail.Take(forward(1, 2, 0, i, e))
	}
	checkSent(t, "P13: Tick of the head", head.Tick(), forward(0, 1, 0, 0, log[0]), forward(0, 1, 0, 1, log[1]), forward(0, 1, 0, 2, log[2]))
	middle.Take(ack(2, 1, 0, 1))
	checkSent(t, "P13: Tick of the one between", middle.Tick(), forward(1, 2, 0, 1, log[1]), forward(1, 2, 0, 2, log[2]))
	checkSent(t, "P13: Tick of the tail", tail.Tick(), ack(2, 1, 0, 3))
	middle.Take(ack(2, 1, 0, 3))
	checkSent(t, "P13: Tick, all committed", middle.Tick())
}

// checkNotLive asks that a replica at this epoch takes in nothing that only a live one does.
func checkNotLive(t *testing.T, what string, r *Replica, epoch int) {
	t.Helper()
	length := len(r.Status().Log)
	checkNothing(t, what+": Request", r, request(put(0, 500, 0, 0)))
	for _, neighbour := range []int{0, 1, 2} {
		checkNothing(t, what+": Forward", r, forward(neighbour, 1, epoch, length, put(0, 500, 0, 0)))
		checkNothing(t, what+": Forward again", r, forward(neighbour, 1, epoch, 0, put(3, 0, 9, 0)))
		checkNothing(t, what+": Ack", r, ack(neighbour, 1, epoch, length))
	}
	checkSent(t, what+": Tick", r.Tick())
}

func TestSealed(t *testing.T) {
	for _, members := range [][]int{{0, 1, 2}, {0, 2, 1}, {1, 0, 2}, {1}} {
		r := New(1, []int{0, 1, 2})
		r.Take(install(3, members, longLog(1)...))
		if from := r.members[0]; from != 1 {
			r.Take(forward(0, 1, 3, 1, put(0, 0, 0, 0)))
			r.Take(forward(2, 1, 3, 1, put(0, 0, 0, 0)))
		} else {
			r.Take(request(put(0, 0, 0, 0)))
		}
		checkSent(t, "P12: Seal", r.Take(seal(4, 9)), sealed(1, 4, 9, put(3, 0, 9, 0), put(0, 0, 0, 0)))
		if s := r.Status(); s.Seal != 4 || s.Epoch != 3 {
			t.Errorf("P12: Seal of the next epoch: %+v", s)
		}
		checkNotLive(t, "P12: sealed", r, 3)
	}
}

func TestNoMember(t *testing.T) {
	for _, members := range [][]int{{0, 2}, {0}, nil} {
		r := New(1, []int{0, 1, 2})
		r.Take(install(2, members, longLog(2)...))
		checkNotLive(t, "P12: no member", r, 2)
		r.Crash()
		r.Restart()
		checkStatus(t, "P8: no member", r, 2, 0, 2, 2, members...)
	}
}

func TestSealEpochs(t *testing.T) {
	all := []int{0, 1, 2}
	r := New(0, all)
	checkNothing(t, "P12: Seal of an epoch too far", r, seal(2, 5))
	checkSent(t, "P12: Seal of its own epoch", r.Take(seal(0, 5)), sealed(0, 0, 5))
	checkStatus(t, "P12: Seal of its own epoch", r, 0, 0, 0, 0, all...)
	checkSent(t, "P12: Seal of the next", r.Take(seal(1, 6)), sealed(0, 1, 6))
	checkStatus(t, "P12: Seal of the next", r, 0, 1, 0, 0, all...)
	checkSent(t, "P12: the same Seal again", r.Take(seal(1, 7)), sealed(0, 1, 7))
	checkSent(t, "P12: Seal of an epoch before", r.Take(seal(0, 8)), sealed(0, 0, 8))
	checkStatus(t, "P12: it stays sealed", r, 0, 1, 0, 0, all...)
	r.Take(install(3, all, longLog(2)...))
	checkSent(t, "P12: further on than that", r.Take(seal(1, 9)), sealed(0, 1, 9, longLog(2)...))
	checkStatus(t, "P12: further on than that", r, 3, 1, 2, 2, all...)
	checkNothing(t, "P12: Seal of an epoch too far", r, seal(5, 9))
	checkSent(t, "P12: live again", r.Take(request(put(0, 0, 0, 0))), forward(0, 1, 3, 2, put(0, 0, 0, 0)))
}

func TestInstall(t *testing.T) {
	r := New(1, []int{0, 1})
	r.Take(forward(0, 1, 0, 0, put(0, 7, 0, 0)))
	checkSent(t, "P12: Install of its epoch", r.Take(install(0, []int{1}, longLog(3)...)), installed(1, 0))
	checkStatus(t, "P12: Install of its epoch", r, 0, 0, 1, 1, 0, 1)
	checkSent(t, "P12: Install", r.Take(install(2, []int{1, 0}, longLog(3)...)), installed(1, 2))
	checkStatus(t, "P12: Install", r, 2, 0, 3, 3, 1, 0)
	if s := r.Status(); !slices.Equal(s.Log, longLog(3)) {
		t.Errorf("P12: Install: the log is %+v", s.Log)
	}
	checkSent(t, "P12: Install of the same", r.Take(install(2, []int{1}, longLog(1)...)), installed(1, 2))
	checkSent(t, "P12: Install of one before", r.Take(install(1, []int{1}, longLog(1)...)), installed(1, 1))
	checkStatus(t, "P12: Install that came late", r, 2, 0, 3, 3, 1, 0)
}

func TestCrashAndRestart(t *testing.T) {
	all := []int{0, 1}
	head, tail := New(0, all), New(1, all)
	for _, r := range []*Replica{head, tail} {
		r.Take(install(1, all, longLog(2)...))
	}
	e := put(0, 0, 0, 5)
	head.Take(request(e))
	tail.Take(forward(0, 1, 1, 2, e))
	head.Take(ack(1, 0, 1, 3))
	for _, r := range []*Replica{head, tail} {
		checkStatus(t, "P8: ahead of the crash", r, 1, 0, 3, 3, 0, 1)
		r.Crash()
		checkStatus(t, "P8: it falls back to its base", r, 1, 0, 2, 3, 0, 1)
		r.Restart()
	}
	checkStatus(t, "P8: the head up again", head, 1, 0, 2, 3, 0, 1)
	checkStatus(t, "P8: the tail up again", tail, 1, 0, 3, 3, 0, 1)
	checkSent(t, "P8: the head knows less", head.Tick(), forward(0, 1, 1, 2, e))
	checkSent(t, "P8: the tail knows it still", tail.Take(forward(0, 1, 1, 2, e)), ack(1, 0, 1, 3))
	tail.Take(seal(2, 2))
	tail.Crash()
	tail.Restart()
	checkStatus(t, "P8: a sealed tail up again", tail, 1, 2, 2, 3, 0, 1)
}

// TestNotNamed: messages of the kinds that are for others.
func TestNotNamed(t *testing.T) {
	for kind := -1; kind <= 18; kind++ {
		switch kind {
		case api.Request, api.Forward, api.Ack, api.Seal, api.Install:
			continue
		}
		r := New(1, []int{0, 1, 2})
		r.Take(forward(0, 1, 0, 0, put(0, 0, 0, 0)))
		for from := range 3 {
			checkNothing(t, "P12: a kind that is not named", r, api.Msg{Kind: kind, From: from, To: 1, Epoch: 0, Pos: 1, Log: longLog(1)})
			checkNothing(t, "P12: a kind that is not named", r, api.Msg{Kind: kind, From: 200, To: 1, Epoch: 1, Pos: 1, Members: []int{1}, Log: longLog(1)})
		}
	}
}

// TestKeepsNoList: what comes in and goes out is no memory of the replica.
func TestKeepsNoList(t *testing.T) {
	all := []int{0, 1}
	r := New(1, all)
	all[1] = 9
	checkStatus(t, "P2: New", r, 0, 0, 0, 0, 0, 1)
	members, log := []int{1, 0}, longLog(2)
	r.Take(install(1, members, log...))
	members[0], log[0] = 9, api.Entry{}
	sent := r.Take(seal(2, 4))
	sent[0].Log[1] = api.Entry{}
	s := r.Status()
	s.Members[0], s.Log[0] = 9, api.Entry{}
	if s := r.Status(); !slices.Equal(s.Members, []int{1, 0}) || !slices.Equal(s.Log, longLog(2)) {
		t.Errorf("P2: it is %+v", s)
	}
}
