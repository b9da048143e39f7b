package cordon

import (
	"math"
	"slices"
	"testing"

	"cordon/api"
	"cordon/wire"
)

// toAll is a question of a master to each of these.
func toAll(m api.Msg, master int, to ...int) []api.Msg {
	var list []api.Msg
	for _, n := range to {
		m.From, m.To = master, n
		list = append(list, m)
	}
	return list
}

// fromAll is an answer of each of these to a master.
func fromAll(m api.Msg, master int, from ...int) []api.Msg {
	var list []api.Msg
	for _, n := range from {
		m.From, m.To = n, master
		list = append(list, m)
	}
	return list
}

// change lets a master begin and all frames arrive.
func change(t *testing.T, c *Cluster, master int, members ...int) {
	t.Helper()
	check(t, "P6: Change", c.Change(master, members), api.OK)
	drain(t, c)
}

// dropAll loses all frames.
func dropAll(c *Cluster) {
	for c.Drop(0) == api.OK {
	}
}

// deliverTill lets the first frames arrive till the first one is of this kind.
func deliverTill(t *testing.T, c *Cluster, kind int) {
	t.Helper()
	for len(c.Bag()) > 0 {
		if m, _ := wire.Decode(c.Bag()[0]); m.Kind == kind {
			return
		}
		deliver(t, c, 1)
	}
	t.Fatalf("no frame of the kind %d was sent", kind)
}

// checkAt asks for all that a replica tells but its log's entries, of which it asks how many there are.
func checkAt(t *testing.T, what string, c *Cluster, replica, epoch, seal, commit, length int, members ...int) {
	t.Helper()
	s, e := c.Status(replica)
	if e != api.OK || s.Epoch != epoch || s.Seal != seal || s.Commit != commit || len(s.Log) != length || !slices.Equal(s.Members, members) {
		t.Errorf("%s: replica %d is %+v, %d, want epoch %d, seal %d, commit %d, %d entries, members %v", what, replica, s, e, epoch, seal, commit, length, members)
	}
}

func checkRegisters(t *testing.T, what string, c *Cluster, epoch int, members ...int) {
	t.Helper()
	for n := 100; n < 103; n++ {
		if b, e := c.Ballots(n); e != api.OK || b.Epoch != epoch || !slices.Equal(b.Members, members) {
			t.Errorf("%s: the register of %d is %+v, %d, want %d, %v", what, n, b, e, epoch, members)
		}
	}
}

// checkIdle asks that a master sends nothing again.
func checkIdle(t *testing.T, what string, c *Cluster, master int) {
	t.Helper()
	before := c.Bag()
	check(t, "P6: Tick", c.Tick(master), api.OK)
	if after := c.Bag(); !slices.Equal(before, after) {
		t.Errorf("%s: master %d sent %+v", what, master, read(after[len(before):]))
	}
}

// TestChangeExamples: examples 4 and 5, behind example 2.
func TestChangeExamples(t *testing.T) {
	c := open(t, 3)
	e := put(0, 0, 5, 7)
	log := []api.Entry{e}
	ask(t, c, 0, e)
	c.Crash(2)
	check(t, "Example 4: Change", c.Change(200, []int{0, 1}), api.OK)
	checkBag(t, "Example 4: it reads", c, toAll(api.Msg{Kind: api.Read, Ballot: 2}, 200, 100, 101, 102)...)
	deliver(t, c, 3)
	checkBag(t, "Example 4: Registers", c, fromAll(api.Msg{Kind: api.Register, Ballot: 2, Members: []int{0, 1, 2}}, 200, 100, 101, 102)...)
	deliver(t, c, 3)
	checkBag(t, "Example 4: it seals", c, toAll(api.Msg{Kind: api.Seal, Epoch: 1, Ballot: 2}, 200, 0, 1, 2)...)
	c.Drop(0)
	deliver(t, c, 2)
	checkAt(t, "Example 4: sealed", c, 1, 0, 1, 1, 1, 0, 1, 2)
	checkBag(t, "Example 4: Sealed of 1", c, api.Msg{Kind: api.Sealed, From: 1, To: 200, Epoch: 1, Ballot: 2, Log: log})
	deliver(t, c, 1)
	checkBag(t, "Example 4: it prepares", c, toAll(api.Msg{Kind: api.Prepare, Epoch: 1, Ballot: 2}, 200, 100, 101, 102)...)
	deliver(t, c, 3)
	checkBag(t, "Example 4: Promises", c, fromAll(api.Msg{Kind: api.Promise, Epoch: 1, Ballot: 2, Vote: -1}, 200, 100, 101, 102)...)
	deliver(t, c, 3)
	checkBag(t, "Example 4: it asks for votes", c, toAll(api.Msg{Kind: api.Accept, Epoch: 1, Ballot: 2, Members: []int{0, 1}, Log: log}, 200, 100, 101, 102)...)
	deliver(t, c, 3)
	checkBag(t, "Example 4: Accepteds", c, fromAll(api.Msg{Kind: api.Accepted, Epoch: 1, Ballot: 2}, 200, 100, 101, 102)...)
	deliver(t, c, 3)
	checkBag(t, "Example 4: it installs", c, toAll(api.Msg{Kind: api.Install, Epoch: 1, Members: []int{0, 1}, Log: log}, 200, 0, 1)...)
	deliver(t, c, 2)
	checkBag(t, "Example 4: Installeds", c, fromAll(api.Msg{Kind: api.Installed, Epoch: 1}, 200, 0, 1)...)
	deliver(t, c, 2)
	checkBag(t, "Example 4: it writes", c, toAll(api.Msg{Kind: api.Write, Epoch: 1, Members: []int{0, 1}}, 200, 100, 101, 102)...)
	deliver(t, c, 3)
	checkBag(t, "Example 4: Writtens", c, fromAll(api.Msg{Kind: api.Written, Epoch: 1}, 200, 100, 101, 102)...)
	deliver(t, c, 3)
	checkBag(t, "Example 4: the end", c)
	checkIdle(t, "Example 4: the end", c, 200)
	checkRegisters(t, "Example 4: the end", c, 1, 0, 1)
	checkAt(t, "Example 4: never sealed", c, 0, 1, 0, 1, 1, 0, 1)
	checkAt(t, "Example 4: sealed before", c, 1, 1, 1, 1, 1, 0, 1)
	checkAt(t, "Example 4: down", c, 2, 0, 0, 0, 1, 0, 1, 2)
	c.Restart(2)
	checkAt(t, "Example 4: up again", c, 2, 0, 0, 1, 1, 0, 1, 2)
	c.Tick(2)
	checkBag(t, "Example 4: it is live still", c, ack(2, 1, 1))
	before := look(c)
	before.Bag = nil
	drain(t, c)
	if after := look(c); !same(before, after) {
		t.Errorf("Example 4: 1 took in a message of 2: %+v, then %+v", before, after)
	}
	check(t, "Example 5: Change", c.Change(201, []int{2}), api.OK)
	checkBag(t, "Example 5: its ballot", c, toAll(api.Msg{Kind: api.Read, Ballot: 3}, 201, 100, 101, 102)...)
	deliver(t, c, 6)
	checkBag(t, "Example 5: it seals", c, toAll(api.Msg{Kind: api.Seal, Epoch: 2, Ballot: 3}, 201, 0, 1)...)
	drain(t, c)
	checkRegisters(t, "Example 5: the end", c, 2, 2)
	checkAt(t, "Example 5: the end", c, 2, 2, 0, 1, 1, 2)
	checkAt(t, "Example 5: sealed", c, 0, 1, 2, 1, 1, 0, 1)
	ask(t, c, 2, get(1, 0, 5))
	checkAnswers(t, "Example 5: the log goes on", c, api.Answer{Client: 0, Seq: 0, Value: -1}, api.Answer{Client: 1, Seq: 0, Value: 7})
}

// noMembers are lists that are none of a cluster of three.
func noMembers() [][]int {
	return [][]int{nil, {}, {3}, {-1}, {100}, {0, 1, 3}, {0, 0}, {0, 1, 0}, {0, 1, 2, 3}, {0, 1, 2, 0}, {0, 1, 2, 0, 1, 2}, {math.MinInt}, {1, math.MaxInt}}
}

// TestChangeRefused: the errors in their order; with each of them the master goes on as it was.
func TestChangeRefused(t *testing.T) {
	c := open(t, 3)
	for _, n := range []int{math.MinInt, -1, 0, 2, 3, 99, 100, 102, 103, 199, 202, 300, math.MaxInt} {
		for _, list := range append(noMembers(), []int{0}) {
			checkRefused(t, c, "P6: Change by no master", api.ErrNode, func() api.Errno { return c.Change(n, list) })
		}
	}
	c.Crash(201)
	for _, list := range append(noMembers(), []int{0}) {
		checkRefused(t, c, "P6: Change by one that is down", api.ErrState, func() api.Errno { return c.Change(201, list) })
	}
	c.Restart(201)
	for _, list := range noMembers() {
		checkRefused(t, c, "P6: Change to no members", api.ErrMembers, func() api.Errno { return c.Change(201, list) })
	}
	checkIdle(t, "P1: refused", c, 201)
	c.Change(201, []int{1})
	checkBag(t, "P1: what was refused was no beginning", c, toAll(api.Msg{Kind: api.Read, Ballot: 3}, 201, 100, 101, 102)...)
	deliver(t, c, 6)
	dropAll(c)
	for _, list := range noMembers() {
		checkRefused(t, c, "P6: Change to no members", api.ErrMembers, func() api.Errno { return c.Change(201, list) })
	}
	c.Tick(201)
	checkBag(t, "P1: refused while it seals", c, toAll(api.Msg{Kind: api.Seal, Epoch: 1, Ballot: 3}, 201, 0, 1, 2)...)
	drain(t, c)
	checkRegisters(t, "P1: it went on", c, 1, 1)
}

// TestBegunTooOften: 1000 times, and how often is kept behind a crash; the other master may begin still.
func TestBegunTooOften(t *testing.T) {
	c := open(t, 3)
	for i := 1; i <= 1000; i++ {
		check(t, "P6: Change", c.Change(200, []int{i % 3}), api.OK)
		if i == 500 {
			c.Crash(200)
			c.Restart(200)
		}
		if i < 1000 {
			dropAll(c)
		}
	}
	checkBag(t, "P14: the last ballot", c, toAll(api.Msg{Kind: api.Read, Ballot: 2000}, 200, 100, 101, 102)...)
	for _, list := range append(noMembers(), []int{0}) {
		checkRefused(t, c, "P6: Change by one that has begun 1000 times", api.ErrState, func() api.Errno { return c.Change(200, list) })
	}
	drain(t, c)
	checkRegisters(t, "P14: the last change", c, 1, 1)
	c.Crash(200)
	checkRefused(t, c, "P6: and is down", api.ErrState, func() api.Errno { return c.Change(200, []int{0}) })
	c.Restart(200)
	checkRefused(t, c, "P6: and is up again", api.ErrState, func() api.Errno { return c.Change(200, []int{0}) })
	change(t, c, 201, 2)
	checkRegisters(t, "P14: the other one", c, 2, 2)
}

// TestChangeList: the list is neither kept nor written into, nor what stands behind it.
func TestChangeList(t *testing.T) {
	c := open(t, 3)
	list := []int{2, 0, 77, 78}
	check(t, "P6: Change", c.Change(200, list[:2]), api.OK)
	list[0], list[1] = 1, 2
	drain(t, c)
	if !slices.Equal(list, []int{1, 2, 77, 78}) {
		t.Errorf("P2: the list is %v", list)
	}
	checkRegisters(t, "P2: the list was kept", c, 1, 2, 0)
}

// TestChangeWhileBusy: in each thing that the master does, the change before is given up.
func TestChangeWhileBusy(t *testing.T) {
	for _, kind := range questions() {
		c := open(t, 3)
		ask(t, c, 0, put(0, 0, 1, 1))
		c.Change(200, []int{0, 1, 2})
		deliverTill(t, c, kind)
		late := c.Bag()
		dropAll(c)
		check(t, "P6: Change", c.Change(200, []int{2}), api.OK)
		checkBag(t, "P14: it reads", c, toAll(api.Msg{Kind: api.Read, Ballot: 4}, 200, 100, 101, 102)...)
		lay(c, late...)
		drain(t, c)
		checkIdle(t, "P14: behind all", c, 200)
		change(t, c, 200, 1, 2)
		want, _ := c.Ballots(100)
		checkRegisters(t, "P14: the next change", c, want.Epoch, 1, 2)
		for replica := 1; replica < 3; replica++ {
			if s, _ := c.Status(replica); s.Epoch != want.Epoch || s.Commit != 1 || !slices.Equal(s.Log, []api.Entry{put(0, 0, 1, 1)}) {
				t.Errorf("P14: the next change: replica %d is %+v", replica, s)
			}
		}
	}
}

// questions are the kinds that a master sends, in their order.
func questions() []int {
	return []int{api.Read, api.Seal, api.Prepare, api.Accept, api.Install, api.Write}
}

// TestMasterCrash: in each thing that the master does.
func TestMasterCrash(t *testing.T) {
	for i, kind := range questions() {
		c := open(t, 3)
		ask(t, c, 0, put(0, 0, 1, 1))
		c.Change(200, []int{2, 1, 0})
		deliverTill(t, c, kind)
		c.Crash(200)
		checkRefused(t, c, "P6: Tick of one that is down", api.ErrState, func() api.Errno { return c.Tick(200) })
		checkRefused(t, c, "P6: Change by one that is down", api.ErrState, func() api.Errno { return c.Change(200, []int{0}) })
		if i%2 == 0 {
			drain(t, c)
		}
		c.Restart(200)
		checkIdle(t, "P8: up again", c, 200)
		drain(t, c)
		checkIdle(t, "P8: answers to what it did", c, 200)
		c.Change(200, []int{1})
		checkBag(t, "P8: it knows how often it began", c, toAll(api.Msg{Kind: api.Read, Ballot: 4}, 200, 100, 101, 102)...)
		drain(t, c)
		checkIdle(t, "P14: the next change", c, 200)
		if s, _ := c.Status(1); s.Commit != 1 || !slices.Equal(s.Log, []api.Entry{put(0, 0, 1, 1)}) {
			t.Errorf("P14: the next change: %+v", s)
		}
	}
}

// TestMasterTicks: in each thing that it does, when nobody and when some have answered.
func TestMasterTicks(t *testing.T) {
	c := open(t, 3)
	e := put(0, 0, 1, 1)
	log := []api.Entry{e}
	ask(t, c, 0, e)
	checkIdle(t, "P14: at first", c, 201)
	c.Change(201, []int{2, 0, 1})
	for _, q := range []struct {
		message api.Msg
		asked   []int
		answers int
	}{
		{api.Msg{Kind: api.Read, Ballot: 3}, []int{100, 101, 102}, 2},
		{api.Msg{Kind: api.Seal, Epoch: 1, Ballot: 3}, []int{0, 1, 2}, 1},
		{api.Msg{Kind: api.Prepare, Epoch: 1, Ballot: 3}, []int{100, 101, 102}, 2},
		{api.Msg{Kind: api.Accept, Epoch: 1, Ballot: 3, Members: []int{2, 0, 1}, Log: log}, []int{100, 101, 102}, 2},
		{api.Msg{Kind: api.Install, Epoch: 1, Members: []int{2, 0, 1}, Log: log}, []int{2, 0, 1}, 3},
		{api.Msg{Kind: api.Write, Epoch: 1, Members: []int{2, 0, 1}}, []int{100, 101, 102}, 2},
	} {
		for range q.answers {
			dropAll(c)
			check(t, "P6: Tick", c.Tick(201), api.OK)
			checkBag(t, "P14: Tick", c, toAll(q.message, 201, q.asked...)...)
			last := len(q.asked) - 1
			c.Deliver(last)
			c.Deliver(last)
			q.asked = q.asked[:last]
		}
	}
	dropAll(c)
	checkIdle(t, "P14: at the end", c, 201)
	check(t, "P6: Tick", c.Tick(101), api.OK)
	checkBag(t, "P11: Tick", c)
	checkAt(t, "P14: at the end", c, 2, 1, 1, 1, 1, 2, 0, 1)
}

// TestDoubledAnswers: one acceptor, or one member, answers three times, and that counts once.
func TestDoubledAnswers(t *testing.T) {
	others := map[int][]int{api.Read: {101, 102}, api.Prepare: {101, 102}, api.Accept: {101, 102}, api.Install: {0, 2}, api.Write: {101, 102}}
	for kind, left := range others {
		c := open(t, 3)
		c.Change(200, []int{1, 0, 2})
		deliverTill(t, c, kind)
		c.Deliver(0)
		answer := len(c.Bag()) - 1
		c.Double(answer)
		c.Double(answer)
		for range 3 {
			c.Deliver(answer)
		}
		dropAll(c)
		c.Tick(200)
		var asked []int
		for _, m := range read(c.Bag()) {
			if m.Kind != kind {
				t.Errorf("P14: the same answer three times: behind %d it sent %+v", kind, m)
			}
			asked = append(asked, m.To)
		}
		if !slices.Equal(asked, left) {
			t.Errorf("P14: the same answer three times to %d: asked again are %v, want %v", kind, asked, left)
		}
		drain(t, c)
		checkRegisters(t, "P14: and the others' answers", c, 1, 1, 0, 2)
	}
}

// TestBothMasters: both at the same epoch; the one whose ballot is greater ends it, and the other is not answered.
func TestBothMasters(t *testing.T) {
	c := open(t, 3)
	ask(t, c, 0, put(0, 0, 1, 1))
	c.Change(200, []int{0})
	c.Change(201, []int{1, 2})
	drain(t, c)
	checkRegisters(t, "P14: both at once", c, 1, 1, 2)
	checkIdle(t, "P14: both at once", c, 201)
	c.Tick(200)
	if sent := read(c.Bag()); len(sent) == 0 || sent[0].Ballot != 2 {
		t.Errorf("P14: the smaller ballot is stuck, but it sent %+v", sent)
	}
	drain(t, c)
	checkRegisters(t, "P11: the smaller ballot", c, 1, 1, 2)
	change(t, c, 200, 0, 2)
	checkRegisters(t, "P14: the next one", c, 2, 0, 2)
}

// TestVoteThatMayBeSettled: one vote that a Promise tells is taken over, though another was wanted.
func TestVoteThatMayBeSettled(t *testing.T) {
	for _, voter := range []int{100, 101, 102} {
		c := open(t, 3)
		ask(t, c, 0, put(0, 0, 1, 1))
		c.Change(200, []int{0})
		deliverTill(t, c, api.Accept)
		c.Deliver(voter - 100)
		dropAll(c)
		c.Crash(200)
		c.Crash(100 + (voter-100+1)%3)
		c.Change(201, []int{1, 2})
		deliverTill(t, c, api.Accept)
		for _, m := range read(c.Bag()) {
			if !slices.Equal(m.Members, []int{0}) || len(m.Log) != 1 || m.Ballot != 3 {
				t.Errorf("P14: the vote of %d: %+v", voter, m)
			}
		}
		drain(t, c)
		checkAt(t, "P14: what was voted for", c, 0, 1, 1, 1, 1, 0)
	}
}

// TestRegistersThatDiffer: a Write that came to one acceptor alone counts, if that one is read.
func TestRegistersThatDiffer(t *testing.T) {
	for _, read := range [][]int{{102, 100}, {100, 102}, {100, 101}} {
		c := open(t, 3)
		c.Change(200, []int{2, 1})
		deliverTill(t, c, api.Write)
		c.Deliver(2)
		dropAll(c)
		c.Crash(200)
		for n := 100; n < 103; n++ {
			if !slices.Contains(read, n) {
				c.Crash(n)
			}
		}
		c.Change(201, []int{0})
		deliverTill(t, c, api.Register)
		if read[0] == 102 {
			c.Deliver(1)
		}
		deliver(t, c, len(c.Bag()))
		if slices.Contains(read, 102) {
			checkBag(t, "P14: the greater epoch", c, toAll(api.Msg{Kind: api.Seal, Epoch: 2, Ballot: 3}, 201, 2, 1)...)
		} else {
			checkBag(t, "P14: the epoch that was read", c, toAll(api.Msg{Kind: api.Seal, Epoch: 1, Ballot: 3}, 201, 0, 1, 2)...)
		}
	}
}

// TestAcceptorBehindCrash: what was promised and voted for is kept, and what comes while it is down is lost.
func TestAcceptorBehindCrash(t *testing.T) {
	c := open(t, 2)
	c.Change(200, []int{1})
	deliverTill(t, c, api.Accepted)
	dropAll(c)
	for n := 100; n < 103; n++ {
		c.Crash(n)
	}
	c.Tick(200)
	drain(t, c)
	for n := 100; n < 103; n++ {
		c.Restart(n)
	}
	c.Change(201, []int{0})
	deliverTill(t, c, api.Promise)
	checkBag(t, "P8: the votes", c, fromAll(api.Msg{Kind: api.Promise, Epoch: 1, Ballot: 3, Vote: 2, Members: []int{1}}, 201, 100, 101, 102)...)
	drain(t, c)
	checkRegisters(t, "P8: what was voted for", c, 1, 1)
	for n := 100; n < 103; n++ {
		c.Crash(n)
		c.Restart(n)
	}
	checkRegisters(t, "P8: the register", c, 1, 1)
}

// TestSealedChain: what a sealed replica takes in no more, wherever it stands.
func TestSealedChain(t *testing.T) {
	for sealed := range 3 {
		c := open(t, 3)
		ask(t, c, 0, put(0, 0, 1, 1))
		c.Change(200, []int{0, 1, 2})
		deliverTill(t, c, api.Seal)
		check(t, "P7: Deliver", c.Deliver(sealed), api.OK)
		dropAll(c)
		checkAt(t, "P12: sealed", c, sealed, 0, 1, 1, 1, 0, 1, 2)
		ask(t, c, 0, put(0, 1, 1, 2))
		ask(t, c, sealed, put(1, 0, 1, 3))
		for replica := range 3 {
			c.Tick(replica)
			drain(t, c)
			if s, _ := c.Status(replica); s.Commit != 1 || replica >= sealed && len(s.Log) != 1 {
				t.Errorf("P12: %d is sealed, replica %d is %+v", sealed, replica, s)
			}
		}
		checkAnswers(t, "P12: nothing is committed any more", c, api.Answer{Client: 0, Seq: 0, Value: -1})
		c.Crash(sealed)
		c.Restart(sealed)
		checkAt(t, "P8: sealed, up again", c, sealed, 0, 1, 0, 1, 0, 1, 2)
	}
}

// TestSealEpochs: Seals that come late, to who is just there, one ahead, and further on.
func TestSealEpochs(t *testing.T) {
	c := open(t, 2)
	ask(t, c, 0, put(0, 0, 1, 1))
	c.Change(200, []int{0, 1})
	deliverTill(t, c, api.Seal)
	late := c.Bag()[0]
	drain(t, c)
	answer := api.Msg{Kind: api.Sealed, From: 0, To: 200, Epoch: 1, Ballot: 2, Log: []api.Entry{put(0, 0, 1, 1)}}
	for epoch := 1; epoch < 4; epoch++ {
		before := look(c)
		lay(c, late)
		deliver(t, c, 1)
		checkBag(t, "P12: who is further on answers", c, answer)
		drain(t, c)
		if after := look(c); !same(before, after) {
			t.Errorf("P12: a Seal that came late changed %+v into %+v", before, after)
		}
		change(t, c, 201, 0, 1)
	}
	c.Change(200, []int{1})
	deliverTill(t, c, api.Install)
	dropAll(c)
	c.bag.send(api.Msg{Kind: api.Seal, From: 200, To: 0, Epoch: 6, Ballot: 4})
	deliver(t, c, 1)
	checkBag(t, "P12: Seal of an epoch two above", c)
	checkAt(t, "P12: Seal of an epoch two above", c, 0, 4, 5, 1, 1, 0, 1)
}

// TestInstallEpochs: Installs that come late, also twice.
func TestInstallEpochs(t *testing.T) {
	c := open(t, 2)
	ask(t, c, 0, put(0, 0, 1, 1))
	c.Change(200, []int{1, 0})
	deliverTill(t, c, api.Install)
	late := c.Bag()[1]
	drain(t, c)
	ask(t, c, 1, put(0, 1, 1, 2))
	for range 2 {
		before := look(c)
		lay(c, late)
		deliver(t, c, 1)
		checkBag(t, "P12: who has it already answers", c, api.Msg{Kind: api.Installed, From: 0, To: 200, Epoch: 1})
		drain(t, c)
		if after := look(c); !same(before, after) {
			t.Errorf("P12: an Install that came late changed %+v into %+v", before, after)
		}
		change(t, c, 201, 0, 1)
	}
}

// TestFullLog: a log of 24 entries goes through a change; in the next epoch there is no room, and the answers are known.
func TestFullLog(t *testing.T) {
	c := open(t, 5)
	var log []api.Entry
	for i := range 24 {
		log = append(log, put(i%4, i, i%16, i))
		ask(t, c, 0, log[i])
	}
	change(t, c, 200, 4, 2, 0, 1, 3)
	for replica := range 5 {
		checkReplica(t, "P12: Install of 24 entries", c, replica, 24, log...)
		c.Crash(replica)
		checkReplica(t, "P8: the base", c, replica, 24, log...)
		c.Restart(replica)
		checkReplica(t, "P8: the base", c, replica, 24, log...)
	}
	told := c.Answers()
	ask(t, c, 3, put(0, 999, 0, 0))
	checkAnswers(t, "P12: no room", c, told...)
	ask(t, c, 3, log[20])
	checkAnswers(t, "P12: again", c, append(told, api.Answer{Client: 0, Seq: 20, Value: 4})...)
}

// TestBase: behind Crash the commit is the length of the log that was installed, whatever was committed since.
func TestBase(t *testing.T) {
	c := open(t, 3)
	ask(t, c, 0, put(0, 0, 1, 1))
	ask(t, c, 0, put(0, 1, 1, 2))
	change(t, c, 200, 2, 0, 1)
	ask(t, c, 0, put(0, 2, 1, 3))
	for replica := range 3 {
		checkAt(t, "P13: committed", c, replica, 1, 1, 3, 3, 2, 0, 1)
		c.Crash(replica)
		checkAt(t, "P8: down", c, replica, 1, 1, 2, 3, 2, 0, 1)
	}
	for replica, commit := range []int{2, 3, 2} {
		c.Restart(replica)
		checkAt(t, "P8: up again", c, replica, 1, 1, commit, 3, 2, 0, 1)
	}
}

// TestOldEpoch: who was left out is live still, takes requests in, and is not listened to; the other way round neither.
func TestOldEpoch(t *testing.T) {
	c := open(t, 3)
	ask(t, c, 0, put(0, 0, 1, 1))
	c.Crash(0)
	change(t, c, 200, 1, 2)
	c.Restart(0)
	ask(t, c, 0, put(1, 0, 1, 2))
	checkAt(t, "P13: the old head", c, 0, 0, 0, 0, 2, 0, 1, 2)
	c.Tick(0)
	checkBag(t, "P13: the old head", c, forward(0, 1, 0, put(0, 0, 1, 1)), forward(0, 1, 1, put(1, 0, 1, 2)))
	drain(t, c)
	checkAt(t, "P13: Forward of another epoch", c, 1, 1, 1, 1, 1, 1, 2)
	for epoch := range 3 {
		c.bag.send(api.Msg{Kind: api.Ack, From: 1, To: 0, Epoch: epoch + 1, Pos: 1})
	}
	drain(t, c)
	checkAt(t, "P13: Ack of another epoch", c, 0, 0, 0, 0, 2, 0, 1, 2)
	ask(t, c, 1, get(2, 0, 1))
	checkAnswers(t, "P13: what the old head took in is lost", c, api.Answer{Client: 0, Seq: 0, Value: -1}, api.Answer{Client: 2, Seq: 0, Value: 1})
	change(t, c, 200, 0, 1)
	checkReplica(t, "P12: Install over a longer log that was not committed", c, 0, 2, put(0, 0, 1, 1), get(2, 0, 1))
}

// TestLeftOut: a replica that is none of its members any more takes in nothing of the chain.
func TestLeftOut(t *testing.T) {
	c := open(t, 3)
	c.bag.send(api.Msg{Kind: api.Install, From: 200, To: 1, Epoch: 3, Members: []int{0, 2}, Log: []api.Entry{put(0, 0, 1, 1)}})
	drain(t, c)
	c.bag.send(request(300, 1, put(0, 5, 1, 1)))
	for _, from := range []int{0, 2} {
		c.bag.send(api.Msg{Kind: api.Forward, From: from, To: 1, Epoch: 3, Pos: 1, Log: []api.Entry{put(0, 5, 1, 1)}})
		c.bag.send(api.Msg{Kind: api.Ack, From: from, To: 1, Epoch: 3, Pos: 1})
	}
	c.Tick(1)
	deliver(t, c, 5)
	checkBag(t, "P12: none of its members", c)
	checkAt(t, "P12: none of its members", c, 1, 3, 0, 1, 1, 0, 2)
	c.Crash(1)
	c.Restart(1)
	checkAt(t, "P8: none of its members", c, 1, 3, 0, 1, 1, 0, 2)
}

// TestToAndFro: two replicas, each of which holds the other for the head, till one of them is changed.
func TestToAndFro(t *testing.T) {
	c := open(t, 2)
	c.bag.send(api.Msg{Kind: api.Install, From: 200, To: 0, Epoch: 1, Members: []int{1, 0}})
	drain(t, c)
	e := put(0, 0, 1, 1)
	c.Ask(0, e)
	for range 50 {
		deliver(t, c, 1)
		checkBag(t, "P15: to", c, request(0, 1, e))
		deliver(t, c, 1)
		checkBag(t, "P15: and fro", c, request(1, 0, e))
	}
	c.bag.send(api.Msg{Kind: api.Install, From: 200, To: 1, Epoch: 1, Members: []int{1, 0}})
	drain(t, c)
	checkAnswers(t, "P15: till one is changed", c, api.Answer{Client: 0, Seq: 0, Value: -1})
}

// TestChangeIntoAFullBag: what finds no room is lost, and a Tick sends it again.
func TestChangeIntoAFullBag(t *testing.T) {
	c := open(t, 2)
	c.Crash(1)
	for i := range 198 {
		c.Ask(1, put(0, i, 0, 0))
	}
	check(t, "P6: Change", c.Change(200, []int{0}), api.OK)
	if l := c.Bag(); len(l) != 200 {
		t.Fatalf("Words: %d frames", len(l))
	}
	drain(t, c)
	checkRegisters(t, "P14: two of three were asked", c, 1, 0)
	for i := range 200 {
		c.Ask(1, put(0, i, 0, 0))
	}
	check(t, "P6: Change", c.Change(200, []int{1}), api.OK)
	dropAll(c)
	c.Tick(200)
	checkBag(t, "P14: all was lost, but it began", c, toAll(api.Msg{Kind: api.Read, Ballot: 4}, 200, 100, 101, 102)...)
}
