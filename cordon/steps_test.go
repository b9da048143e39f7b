package cordon

import (
	"math"
	"slices"
	"testing"

	"cordon/api"
)

func TestConfig(t *testing.T) {
	for _, n := range []int{math.MinInt, -1, 0, 6, 7, 100, math.MaxInt} {
		if c, e := New(api.Config{Replicas: n}); c != nil || e != api.ErrConfig {
			t.Errorf("P5: New of %d replicas: %v, %d", n, c, e)
		}
	}
}

func TestNewCluster(t *testing.T) {
	for n := 1; n <= 5; n++ {
		all := []int{0, 1, 2, 3, 4}[:n]
		want := picture{}
		for range n {
			want.Status = append(want.Status, api.Status{Up: true, Members: all})
		}
		for range 3 {
			want.Ballots = append(want.Ballots, api.Ballots{Up: true, Members: all})
		}
		if got := look(open(t, n)); !same(got, want) {
			t.Errorf("P5: a new cluster of %d: %+v", n, got)
		}
	}
}

// nodesOf are the numbers of all nodes; noNodes are neighbours of theirs, and numbers far off.
func nodesOf(replicas int) []int {
	return append([]int{0, 1, 2, 3, 4}[:replicas:replicas], 100, 101, 102, 200, 201)
}

func noNodes(replicas int) []int {
	return []int{math.MinInt, -1, replicas, 99, 103, 199, 202, 299, 300, 303, 304, math.MaxInt}
}

func TestNodesThatAreNone(t *testing.T) {
	for replicas := 1; replicas <= 5; replicas++ {
		c := open(t, replicas)
		c.Ask(0, put(0, 0, 0, 0))
		for _, n := range noNodes(replicas) {
			checkRefused(t, c, "P6: Tick", api.ErrNode, func() api.Errno { return c.Tick(n) })
			checkRefused(t, c, "P8: Crash", api.ErrNode, func() api.Errno { return c.Crash(n) })
			checkRefused(t, c, "P8: Restart", api.ErrNode, func() api.Errno { return c.Restart(n) })
		}
		for _, n := range append(noNodes(replicas), 100, 102, 200, 201) {
			checkRefused(t, c, "P6: Ask", api.ErrNode, func() api.Errno { return c.Ask(n, put(0, 0, 0, 0)) })
			checkRefused(t, c, "P6: Ask, the node is asked first", api.ErrNode, func() api.Errno { return c.Ask(n, api.Entry{}) })
			if s, e := c.Status(n); e != api.ErrNode || s.Up || s.Epoch != 0 || s.Seal != 0 || s.Commit != 0 || len(s.Members) != 0 || len(s.Log) != 0 {
				t.Errorf("P10: Status(%d) = %+v, %d", n, s, e)
			}
		}
		for _, n := range append(noNodes(replicas), 0, replicas-1, 200, 201) {
			if b, e := c.Ballots(n); e != api.ErrNode || b.Up || b.Epoch != 0 || len(b.Members) != 0 {
				t.Errorf("P10: Ballots(%d) = %+v, %d", n, b, e)
			}
		}
	}
}

func TestRequestsThatAreNone(t *testing.T) {
	c := open(t, 2)
	c.Crash(1)
	for _, e := range []api.Entry{{}, {Kind: 3}, {Kind: -1}, {Kind: math.MaxInt}, put(-1, 0, 0, 0), put(4, 0, 0, 0), put(0, -1, 0, 0), put(0, 1000, 0, 0), put(0, 0, -1, 0), put(0, 0, 16, 0), put(0, 0, 0, -1), put(0, 0, 0, 1000), {Kind: api.Get, Value: 1}, {Kind: api.Get, Value: -1}, get(4, 0, 0), get(0, 1000, 0), get(0, 0, 16), put(math.MinInt, 0, 0, 0), put(0, math.MaxInt, 0, 0)} {
		for replica := range 2 {
			checkRefused(t, c, "P6: Ask", api.ErrRequest, func() api.Errno { return c.Ask(replica, e) })
		}
	}
}

func TestAsk(t *testing.T) {
	c := open(t, 5)
	var want []api.Msg
	for i, e := range []api.Entry{put(0, 0, 0, 0), put(3, 999, 15, 999), get(1, 5, 7), get(2, 999, 15), put(1, 2, 3, 4)} {
		check(t, "P6: Ask", c.Ask(i, e), api.OK)
		want = append(want, request(300+e.Client, i, e))
	}
	checkBag(t, "P6: Ask", c, want...)
}

// TestUpAndDown: Crash and Restart of every node, what they refuse, and that the other nodes stay as they are.
func TestUpAndDown(t *testing.T) {
	for _, n := range nodesOf(3) {
		c := open(t, 3)
		ask(t, c, 0, put(0, 0, 0, 0))
		c.Ask(2, put(0, 1, 0, 0))
		before := look(c)
		checkRefused(t, c, "P8: Restart of one that is up", api.ErrState, func() api.Errno { return c.Restart(n) })
		check(t, "P8: Crash", c.Crash(n), api.OK)
		checkUp(t, c, n)
		checkRefused(t, c, "P8: Crash of one that is down", api.ErrState, func() api.Errno { return c.Crash(n) })
		checkRefused(t, c, "P6: Tick of one that is down", api.ErrState, func() api.Errno { return c.Tick(n) })
		check(t, "P8: Restart", c.Restart(n), api.OK)
		checkUp(t, c, -1)
		if n < 2 {
			before.Status[n].Commit = 0
		}
		if after := look(c); !same(before, after) {
			t.Errorf("P8: Crash and Restart of %d changed %+v into %+v", n, before, after)
		}
	}
}

// checkUp asks that all nodes that tell are up, but one.
func checkUp(t *testing.T, c *Cluster, down int) {
	t.Helper()
	for replica := range 3 {
		if s, _ := c.Status(replica); s.Up != (replica != down) {
			t.Errorf("P10: %d is down: Status(%d) = %+v", down, replica, s)
		}
	}
	for n := 100; n < 103; n++ {
		if b, _ := c.Ballots(n); b.Up != (n != down) {
			t.Errorf("P10: %d is down: Ballots(%d) = %+v", down, n, b)
		}
	}
}

// TestTickOfOthers: acceptors send nothing, nor do masters that are idle.
func TestTickOfOthers(t *testing.T) {
	c := open(t, 3)
	for _, n := range nodesOf(3)[3:] {
		before := look(c)
		check(t, "P6: Tick", c.Tick(n), api.OK)
		if after := look(c); !same(before, after) {
			t.Errorf("P11, P14: Tick(%d) changed %+v into %+v", n, before, after)
		}
	}
}

func TestPlacesOfTheBag(t *testing.T) {
	c := open(t, 1)
	for frames := range 4 {
		for _, i := range []int{math.MinInt, -1, frames, frames + 1, 200, math.MaxInt} {
			checkRefused(t, c, "P7: Deliver", api.ErrFrame, func() api.Errno { return c.Deliver(i) })
			checkRefused(t, c, "P7: Drop", api.ErrFrame, func() api.Errno { return c.Drop(i) })
			checkRefused(t, c, "P7: Double", api.ErrFrame, func() api.Errno { return c.Double(i) })
		}
		c.Ask(0, put(0, frames, 0, 0))
	}
}

// askSome puts the requests of the Seqs 0, 1, .. on their way, and tells them.
func askSome(c *Cluster, n int) []api.Msg {
	var list []api.Msg
	for i := range n {
		e := put(0, i, i%16, i)
		c.Ask(0, e)
		list = append(list, request(300, 0, e))
	}
	return list
}

func TestDrop(t *testing.T) {
	for i := range 4 {
		c := open(t, 1)
		want := askSome(c, 4)
		check(t, "P7: Drop", c.Drop(i), api.OK)
		checkBag(t, "P7: Drop", c, slices.Delete(want, i, i+1)...)
		checkReplica(t, "P7: Drop", c, 0, 0)
	}
}

func TestDouble(t *testing.T) {
	for i := range 4 {
		c := open(t, 1)
		want := askSome(c, 4)
		check(t, "P7: Double", c.Double(i), api.OK)
		checkBag(t, "P7: Double", c, append(want, want[i])...)
		check(t, "P7: Double of the doubled", c.Double(4), api.OK)
		checkBag(t, "P7: Double of the doubled", c, append(want, want[i], want[i])...)
	}
}

func TestDeliver(t *testing.T) {
	for i := range 4 {
		c := open(t, 2)
		want := askSome(c, 4)
		e := want[i].Log[0]
		check(t, "P7: Deliver", c.Deliver(i), api.OK)
		checkBag(t, "P7: what leaves, and what is sent", c, append(slices.Delete(want, i, i+1), forward(0, 1, 0, e))...)
		checkReplica(t, "P7: who takes it in", c, 0, 0, e)
		checkReplica(t, "P7: who does not", c, 1, 0)
	}
}

// TestFullBag: 200 frames; what is sent then is lost, and a frame that leaves makes room.
func TestFullBag(t *testing.T) {
	c := open(t, 2)
	want := askSome(c, 199)
	check(t, "P7: Double into the last place", c.Double(5), api.OK)
	want = append(want, want[5])
	checkBag(t, "Words: 200 frames", c, want...)
	check(t, "P6: Ask", c.Ask(0, put(1, 1, 1, 1)), api.OK)
	check(t, "P7: Double", c.Double(199), api.OK)
	check(t, "P7: Double", c.Double(0), api.OK)
	check(t, "P6: Tick", c.Tick(1), api.OK)
	checkBag(t, "Words: what is lost", c, want...)
	checkRefused(t, c, "P7: the place behind the last", api.ErrFrame, func() api.Errno { return c.Deliver(200) })
	check(t, "P7: Deliver of the last", c.Deliver(199), api.OK)
	want[199] = forward(0, 1, 0, want[5].Log[0])
	checkBag(t, "P7: there is room for one", c, want...)
	check(t, "P7: Deliver of what sends two", c.Deliver(199), api.OK)
	want[199] = reply(1, 0, 5, -1)
	checkBag(t, "P7: the second one is lost", c, want...)
	checkReplica(t, "P7: what is lost is done still", c, 1, 1, want[5].Log[0])
}

// TestDownNodesTakeNothing: what comes to a node that is down is lost.
func TestDownNodesTakeNothing(t *testing.T) {
	c := open(t, 3)
	e := put(0, 0, 5, 7)
	c.Crash(0)
	ask(t, c, 0, e)
	checkReplica(t, "P7: Request to one that is down", c, 0, 0)
	c.Restart(0)
	checkBag(t, "P7: Request to one that was down", c)
	c.Crash(1)
	ask(t, c, 0, e)
	c.Restart(1)
	checkReplica(t, "P7: Forward to one that was down", c, 1, 0)
	c.Tick(0)
	deliver(t, c, 2)
	c.Crash(1)
	deliver(t, c, 2)
	checkAnswers(t, "P7: clients are never down", c, api.Answer{Client: 0, Seq: 0, Value: -1})
	checkBag(t, "P7: Ack to one that is down", c)
	c.Restart(1)
	checkReplica(t, "P7: Ack to one that was down", c, 1, 0, e)
	checkReplica(t, "P7: the tail", c, 2, 1, e)
}

// TestCommitBehindCrash: of the head, of one between, and of the tail.
func TestCommitBehindCrash(t *testing.T) {
	c := open(t, 3)
	e := put(2, 3, 4, 5)
	ask(t, c, 1, e)
	for replica := range 3 {
		checkReplica(t, "P13: committed", c, replica, 1, e)
		c.Crash(replica)
		checkReplica(t, "P8: down", c, replica, 0, e)
	}
	for replica, commit := range []int{0, 0, 1} {
		c.Restart(replica)
		checkReplica(t, "P8: up again", c, replica, commit, e)
	}
	ask(t, c, 0, e)
	checkAnswers(t, "P12: the head knows of no commit", c, api.Answer{Client: 2, Seq: 3, Value: -1})
	c.Tick(0)
	drain(t, c)
	checkReplica(t, "P13: one between knows none either", c, 0, 0, e)
	c.Tick(1)
	drain(t, c)
	checkReplica(t, "P13: the tail's Ack", c, 0, 1, e)
	ask(t, c, 0, e)
	checkAnswers(t, "P12: and again", c, api.Answer{Client: 2, Seq: 3, Value: -1}, api.Answer{Client: 2, Seq: 3, Value: -1})
}

// isNamed tells of the messages of TestFramesOfAllSorts whether who it is to takes it in.
func isNamed(kind, to int) bool {
	switch kind {
	case api.Reply:
		return to >= 300 && to <= 303
	case api.Seal, api.Install:
		return to >= 0 && to < 3
	case api.Read, api.Prepare, api.Accept, api.Write:
		return to >= 100 && to < 103
	}
	return false
}

// TestFramesOfAllSorts: frames that no node sends are lost too, wherever they go.
func TestFramesOfAllSorts(t *testing.T) {
	c := open(t, 3)
	before := look(c)
	for _, to := range append(noNodes(3), nodesOf(3)...) {
		for kind := 1; kind <= 16; kind++ {
			if isNamed(kind, to) {
				continue
			}
			c.bag.send(api.Msg{Kind: kind, From: 102, To: to, Epoch: 1, Ballot: 2, Pos: 0, Members: []int{2}})
		}
		drain(t, c)
	}
	lay(c, "no frame")
	lay(c, "")
	drain(t, c)
	if after := look(c); !same(before, after) {
		t.Errorf("P7: frames that are lost changed %+v into %+v", before, after)
	}
	for client := range 4 {
		c.bag.send(reply(1, client, 9, 8))
	}
	drain(t, c)
	checkAnswers(t, "P7: Reply to each client", c, api.Answer{Client: 0, Seq: 9, Value: 8}, api.Answer{Client: 1, Seq: 9, Value: 8}, api.Answer{Client: 2, Seq: 9, Value: 8}, api.Answer{Client: 3, Seq: 9, Value: 8})
}
